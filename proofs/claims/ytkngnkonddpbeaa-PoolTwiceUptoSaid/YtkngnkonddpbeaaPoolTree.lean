/-
  The landed pool's ofTree: a tree is put.
-/
import Derived.Test.YtkngnkonddpbeaaPoolTk
import Derived.Test.YtkngnkonddpbeaaPoolNode
import Derived.BigQuiet
namespace Go.Proofs.Ytkngnkonddpbeaa
open Go.RowKit Go.PlainAid

theorem Mv.over {O O' M M' : Nat → Prop} {A W W' : World} (h : Mv O A O' W) (m : Mv M W M' W') (hm : ∀ k, M k → A.heap.size ≤ k) : Mv O A O' W' :=
  ⟨m.os.trans h.os, m.tape.trans h.tape, m.output.trans h.output, Nat.le_trans h.size m.size, fun k hk hn => (m.block k (Nat.lt_of_lt_of_le hk h.size) (fun e => by have := hm k e; omega)).trans (h.block k hk hn), h.own⟩
theorem mv_grown {W W' : World} {v v' : Value} (h : W.grownBy W' v.ownBlock) (hw : v'.ownBlock = v.ownBlock ∨ ∀ k, v'.ownBlock = some k → W.heap.size ≤ k) : Mv (fun k => v.ownBlock = some k) W (fun k => v'.ownBlock = some k) W' :=
  ⟨h.os, h.tape, h.output, h.size, fun k hk hn => h.block k hk (fun e => hn e.symm), fun k hk => by
    rcases hw with e | e
    · exact .inl (by rw [← e]; exact hk)
    · exact .inr (e k hk)⟩
theorem nadd_num (K : NK) (z : Nat) (S : Sto) (h : S.zs.length = S.ks.length) : S.ks.findIdx (fun y => decide (y = K)) < (nadd K z S).zs.length ∧ (nadd K z S).zs.length = (nadd K z S).ks.length := by
  unfold nadd
  split
  · rename_i hm
    have := (List.getElem?_eq_some_iff.1 (find_mem hm)).1
    exact ⟨by omega, h⟩
  · rename_i hm
    simp only [List.length_append, List.length_cons, List.length_nil]
    rw [find_not hm]
    exact ⟨by omega, by omega⟩
theorem ndn_num (x : Nd) (r : Nat × Nat × Sto) (h : r.2.2.zs.length = r.2.2.ks.length) : ∃ R0, (ndn x r).1 = R0 + 1 ∧ R0 < (ndn x r).2.zs.length ∧ (ndn x r).2.zs.length = (ndn x r).2.ks.length := by
  cases x with
  | mk k t l br bl no ta =>
    obtain ⟨h1, h2⟩ := nadd_num ((k, t, bl), r.1, cnum no 0 r.2.2.ls, cnum ta 0 (cadd no 0 r.2.2.ls)) r.2.1 { r.2.2 with ls := cadd ta 0 (cadd no 0 r.2.2.ls) } h
    exact ⟨_, rfl, h1, h2⟩
theorem StM.size {W : World} {g bm bl : Nat} {zv : Value} {S : Sto} (h : StM W g bm bl zv S) {j z : Nat} (hz : S.zs[j]? = some z) : ∃ zb zc, zv = .slice (some ⟨zb, 0, none⟩) S.zs.length zc ∧ W.cell? ⟨zb, j, none⟩ = some (.int .i64 (z : Int)) ∧ Fs g bm bl zv zb := by
  have hj := (List.getElem?_eq_some_iff.1 hz).1
  obtain ⟨hl, ⟨rfl, h0⟩ | ⟨b, cap, cur, rfl, hb, hg, hn, hcm, hzz, ht⟩⟩ := h.row
  · omega
  · refine ⟨b, cap, rfl, ?_, .inr (.inr (.inr rfl))⟩
    rw [cell_of_row W _ _ _ _ _ hg]
    have e : (S.zs.map fun (z : Nat) => Value.int .i64 (z : Int))[j]? = some (.int .i64 (z : Int)) := by rw [List.getElem?_map, hz]; rfl
    rw [← ht, List.getElem?_take_of_lt (by omega), Array.getElem?_toList] at e
    exact e
theorem tk_new {W : World} {G : Nat → Prop} {n : Nd} {c : List Value} (hn : NdIn W G c n) (hG : ∀ k, G k → k < W.heap.size) (ho : OkP n) (W2 : World)
    (hW : W2 = (W.alloc (.cells c.toArray 32)).alloc (.cells #[.pointer (some ⟨W.heap.size, 0, none⟩), .int .i64 0, .int .i64 0, .int .i64 1] 50)) :
    Tk W2 (fun k => G k ∨ k = W.heap.size) (W.heap.size + 1) (.slice (some ⟨W.heap.size + 1, 0, none⟩) 1 1) [⟨n, 0, 0, 1, W.heap.size, 0⟩] ∧ Below W.heap.size W W2 := by
  have hb : Below W.heap.size W W2 := by
    rw [hW]
    repeat' (first | exact Below.refl _ _ | refine Below.alloc ?_ ?_ _ | (simp; omega) | simp)
  have e1 : W2.heap[W.heap.size]? = some (.cells c.toArray 32 (0, 0)) := by
    rw [hW]; show ((W.heap.push _).push _)[W.heap.size]? = _
    rw [Array.getElem?_push, if_neg (by simp), Array.getElem?_push, if_pos (by simp)]
  have e2 : W2.heap[W.heap.size + 1]? = some (.cells #[.pointer (some ⟨W.heap.size, 0, none⟩), .int .i64 0, .int .i64 0, .int .i64 1] 50 (0, 0)) := by
    rw [hW]; show ((W.heap.push _).push _)[W.heap.size + 1]? = _
    rw [Array.getElem?_push, if_pos (by simp)]
  have hn2 : NdIn W2 (fun k => G k ∨ k = W.heap.size) c n := (hn.keep (keeps_below hb)).weak (fun g hg _ => .inl hg)
  refine ⟨⟨⟨rfl, .inr ⟨W.heap.size + 1, 1, _, rfl, Nat.le_refl _, e2, Nat.le_refl _, by unfold maxLen; omega, rfl, rfl⟩⟩, ?_, ?_, fun f hf => by simp at hf, ?_, ?_⟩, hb⟩
  · intro f hf
    simp only [List.mem_cons, List.not_mem_nil, or_false] at hf
    subst hf
    exact ⟨.inr rfl, lt_of_block e1, c, hn2, fun j u hj => by
      rw [cell_of_row W2 _ _ _ _ _ e1, Nat.zero_add]
      simpa using hj⟩
  · intro f hf
    simp only [List.mem_cons, List.not_mem_nil, or_false] at hf
    subst hf
    exact ⟨ho, Nat.zero_le _, Nat.zero_le _, by show 1 ≤ 1 + 5000 * 0; omega⟩
  · have h1 := ho.1
    have h2 := cnt_kds n
    simp only [remV, List.drop_zero, List.length_cons, List.length_nil]
    omega
  · intro k hk
    rcases hk with hk | hk
    · have := hG k hk; omega
    · omega
set_option maxRecDepth 100000 in
set_option maxHeartbeats 4000000 in
theorem ofTree_any (g bm bl : Nat) (zv : Value) (S : Sto) (G : Nat → Prop) (n : Nd) (c : List Value) (W : World) (h : StM W g bm bl zv S) (hlen : S.zs.length = S.ks.length) (hn : NdIn W G c n) (hG : ∀ k, G k → ¬ Fs g bm bl zv k ∧ k < W.heap.size) (ho : OkP n)
    (hfl : (pt n S).2.ls.length ≤ 1099511627776) (hfk : (pt n S).2.ks.length ≤ 1000000) (hfz : ∀ z ∈ (pt n S).2.zs, z ≤ 5000) :
    Calls Try.prog 16 #[.pointer (some ⟨g, 0, none⟩), .agg c.toArray] W fun e W' => e = .returned (.int .i64 ((pt n S).1 : Int)) ∧ ∃ zv', StM W' g bm bl zv' (pt n S).2 ∧ (pt n S).2.zs.length = (pt n S).2.ks.length ∧ Mv (Fs g bm bl zv) W (Fs g bm bl zv') W' := by
  have HNW := Lib.hid (fun W2 hW => tk_new hn (fun k hk => (hG k hk).2) ho W2 hW)
  have HA0 : Hid (∀ k, (k = W.heap.size + 1 ∨ (G k ∨ k = W.heap.size)) → ¬ Fs g bm bl zv k) := Lib.hid (fun k hk hf => by
    have := h.live k hf
    rcases hk with hk | hk | hk
    · omega
    · exact (hG k hk).1 hf
    · omega)
  have HS0 := Lib.hid h
  obtain ⟨N, SF, hNF⟩ : ∃ N SF, pt n S = (N, SF) := ⟨_, _, rfl⟩
  rw [hNF] at hfl hfk hfz ⊢
  have HP0 : Hid (fin11 ⟨n, 0, 0, 1, W.heap.size, 0⟩ [] S = (N, SF)) := Lib.hid (by simp only [fin11, fdone_zero]; exact hNF)
  have HL0 := Lib.hid hlen
  have HFB := Lib.hid (⟨hfl, hfk, hfz⟩ : SF.ls.length ≤ 1099511627776 ∧ SF.ks.length ≤ 1000000 ∧ ∀ z ∈ SF.zs, z ≤ 5000)
  clear h hG hNF hlen hfl hfk hfz ho
  have hn' := hn
  obtain ⟨k0, t0, l0, br0, b0, no0, ta0, lv0, nv0, tv0, cs0, ⟨na0, nc0, rfl, -⟩, ⟨tb0, tc0, rfl, -⟩, ⟨la0, lc0, rfl, -⟩, -⟩ := hn
  clear hn'
  go_enter Try.func16, Try.ntmps16
  go_wp2_with fail
  obtain ⟨NT, hNT⟩ : ∃ NT : Nd, NT = Nd.mk k0 t0 l0 br0 b0 no0 ta0 := ⟨_, rfl⟩
  rw [← hNT] at HNW HP0
  clear hNT
  go_loopg [5] (2 * remV [⟨NT, 0, 0, 1, W.heap.size, 0⟩]) (fun gn v wr => ∃ (f : Fv) (r : List Fv) (S' : Sto) (zv' : Value), gn = 2 * remV (f :: r) + r.length ∧ Hid (Tk wr (fun k => G k ∨ k = W.heap.size) (W.heap.size + 1) v (f :: r)) ∧ Hid (StM wr g bm bl zv' S') ∧ Hid (Mv (Fs g bm bl zv) W (Fs g bm bl zv') wr) ∧ Hid (∀ k, (v.ownBlock = some k ∨ (G k ∨ k = W.heap.size)) → ¬ Fs g bm bl zv' k) ∧ Hid (fin11 f r S' = (N, SF)) ∧ Hid (S'.zs.length = S'.ks.length))
  case atStart =>
    obtain ⟨ht, hb⟩ := HNW.out _ rfl
    exact ⟨_, [], S, zv, rfl, Lib.hid ht, Lib.hid (HS0.out.below hb), Lib.hid (mv_below _ hb), Lib.hid (fun k hk => HA0.out k (hk.imp (fun e => by simp only [Value.ownBlock, Option.some.injEq] at e; omega) id)), HP0, HL0⟩
  case round =>
    obtain ⟨f, r, S', zv', hgn, HT, HS, HM, HA, HFI, HL⟩ := hrel
    obtain ⟨b, cap, rfl, c1, c2, c3, c4, hcap, hm6, hbb, hblt, hfz⟩ := HT.out.top
    obtain ⟨x, i, it, sz, g0, o0⟩ := f
    have hin := HT.out.ok ⟨x, i, it, sz, g0, o0⟩ (by simp)
    have HIN := Lib.hid hin
    have HBB := Lib.hid hbb
    have HBL := Lib.hid hblt
    have HFZ := Lib.hid hfz
    cases x with
    | mk k t l br bo no ta =>
      obtain ⟨a, cap', nv, tv, ⟨-, -, d2, -, -, -, -⟩, -, -, hk⟩ := hin.open
      simp only at c1 c2 c3 c4 d2
      obtain ⟨m, hmm⟩ : ∃ m, m = r.length := ⟨_, rfl⟩
      rw [← hmm] at c1 c2 c3 c4 hcap hm6 HT HA ⊢
      obtain ⟨M, hM⟩ : ∃ M, M = l.length := ⟨_, rfl⟩
      rw [← hM] at d2
      have HMM := Lib.hid hmm
      have HMN := Lib.hid hM
      have z1 := hfz (m * 4 + 1)
      have gm : IntKind.i64.wrap (((m : Int) + 1) - 1) = (m : Int) := by rw [IntKind.wrap_i64]; omega
      have gm2 : wrap64 (m : Int) = (m : Int) := by have := IntKind.wrap_i64 (m : Int); unfold wrap64; omega
      clear hmm hM hin hbb hblt hfz
      by_cases hlt : i < M
      · obtain ⟨y, hy⟩ : ∃ y, l[i]? = some y := ⟨_, List.getElem?_eq_getElem (by rw [← HMN.out]; exact hlt)⟩
        obtain ⟨g', o', rfl, hny⟩ := hk i y hy
        have HNY := Lib.hid hny
        have HY := Lib.hid hy
        have qn : (i : Int) < (M : Int) := by omega
        have hN2 := HMN.out
        have hw1 : wrap64 ((i : Int) + 1) = (i : Int) + 1 := by have := IntKind.wrap_i64 ((i : Int) + 1); have := hm6; have := len_cntP l; have := (HT.out.sm _ (List.mem_cons_self ..)).1.1; simp only [cnt] at this; unfold wrap64; omega
        have HSN : Hid (∀ q, Tk ((wr.drewN q).setCell ⟨b, m * 4 + 1, none⟩ (.int .i64 ((i : Int) + 1))) (fun k => G k ∨ k = W.heap.size) (W.heap.size + 1) (.slice (some ⟨b, 0, none⟩) (m + 1) cap) (⟨.mk k t l br bo no ta, i + 1, it, sz, g0, o0⟩ :: r)) := Lib.hid (fun q => by
          have h1 := HT.out.below (drew_below wr q)
          rw [HMM.out] at h1 ⊢
          exact (h1.seen hy).1)
        have hse := HT.out
        rw [HMM.out] at hse
        obtain ⟨-, v2, v3, v4, v5⟩ := hse.seen hy
        have HSY := Lib.hid v2
        have HTL := Lib.hid v3
        have HFE := Lib.hid v4
        have HV5 := Lib.hid v5
        have HGN := Lib.hid hgn
        have HMS : Hid (∀ q, Mv (fun k => (Value.slice (some ⟨b, 0, none⟩) (m + 1) cap).ownBlock = some k) wr (fun k => (Value.slice (some ⟨b, 0, none⟩) (m + 1) cap).ownBlock = some k) ((wr.drewN q).setCell ⟨b, m * 4 + 1, none⟩ (.int .i64 ((i : Int) + 1)))) := Lib.hid (fun q => Mv.set (O := (fun k => (Value.slice (some ⟨b, 0, none⟩) (m + 1) cap).ownBlock = some k)) (O' := (fun k => (Value.slice (some ⟨b, 0, none⟩) (m + 1) cap).ownBlock = some k)) (mv_below _ (drew_below wr q)) (b := b) rfl _ _)
        have hpb : ∀ k, (G k ∨ k = W.heap.size) → ¬ (Value.slice (some ⟨b, 0, none⟩) (m + 1) cap).ownBlock = some k := HT.out.apart
        have HNS : Hid (∀ q, NIn ((wr.drewN q).setCell ⟨b, m * 4 + 1, none⟩ (.int .i64 ((i : Int) + 1))) (fun k => G k ∨ k = W.heap.size) g' (o' + i * 7) y) := Lib.hid (fun q => HNY.out.keep ((HMS.out q).keeps hpb))
        have HBZ : Hid (∀ q, W.heap.size + 1 ≤ ((wr.drewN q).setCell ⟨b, m * 4 + 1, none⟩ (.int .i64 ((i : Int) + 1))).heap.size) := Lib.hid (fun q => by have := HBB.out; have := HBL.out; simp; show W.heap.size + 1 ≤ wr.heap.size; omega)
        clear hk hny hy hN2 hse v2 v3 v4 v5 hpb hgn
        go_wp2_with fail
        go_quiet (fail)
        go_wp2_with fail
        go_quiet (fail)
        go_wp2_with (at_builtin; go_must (refine wpList_push11 rfl _ _ rfl g' (o' + i * 7) rfl (HSN.out _) (HBZ.out _) rfl _ rfl (by simp) y (HNS.out _) HSY.out HTL.out HFE.out ?_); intro v1 w1 hk1 hg1 hw1; have HK1 := Lib.hid hk1; have HM1 := Lib.hid (((HMS.out _).alloc _).trans (mv_grown (v := .slice (some ⟨b, 0, none⟩) (m + 1) cap) hg1 hw1)); clear hk1 hg1 hw1)
        go_roundg (2 * remV (⟨y, 0, 0, 1, g', o' + i * 7⟩ :: ⟨.mk k t l br bo no ta, i + 1, it, sz, g0, o0⟩ :: r) + (⟨.mk k t l br bo no ta, i + 1, it, sz, g0, o0⟩ :: r : List Fv).length)
        case measure => rw [HGN.out]; exact HV5.out _ _
        case rel =>
          refine ⟨⟨y, 0, 0, 1, g', o' + i * 7⟩, ⟨.mk k t l br bo no ta, i + 1, it, sz, g0, o0⟩ :: r, S', zv', rfl, HK1, Lib.hid (HS.out.keep (fun k hk => HM1.out.block k (HS.out.live k hk) (fun e => HA.out k (.inl e) hk))), Lib.hid (HM.out.over HM1.out (fun k hk => by have := (HT.out.row.lt k hk).1; omega)), Lib.hid (fun k hk => ?_), Lib.hid ((fin_push (f := ⟨.mk k t l br bo no ta, i, it, sz, g0, o0⟩) (r := r) HY.out g' (o' + i * 7)).trans HFI.out), HL⟩
          rcases hk with hk | hk
          · rcases HM1.out.own k hk with e | e
            · exact HA.out k (.inl e)
            · intro hf
              have := HS.out.live k hf
              omega
          · exact HA.out k (.inr hk)
      · have qn : ¬ ((i : Int) < (M : Int)) := by omega
        have HU : Hid (l.length ≤ i) := Lib.hid (by rw [← HMN.out]; omega)
        obtain ⟨R0, hR0, hlt0, hlen2⟩ := ndn_num (.mk k t l br bo no ta) (it, sz, S') HL.out
        obtain ⟨R2, hR2⟩ : ∃ R2, R2 = (ndn (.mk k t l br bo no ta) (it, sz, S')).2 := ⟨_, rfl⟩
        rw [← hR2] at hlt0 hlen2
        have hfd : fdone ⟨.mk k t l br bo no ta, i, it, sz, g0, o0⟩ S' = (R0 + 1, R2) := by
          rw [fdone_end (f := ⟨.mk k t l br bo no ta, i, it, sz, g0, o0⟩) HU.out, ← hR0, hR2]
        have hpr := fin_pre r ⟨.mk k t l br bo no ta, i, it, sz, g0, o0⟩ S'
        rw [HFI.out] at hpr
        have hpr : S'.pre SF := hpr
        have HSB : Hid (S'.ls.length ≤ 1099511627776 ∧ S'.ks.length ≤ 1000000) := Lib.hid ⟨Nat.le_trans hpr.len.1 HFB.out.1, Nat.le_trans hpr.len.2.1 HFB.out.2.1⟩
        have hsm := HT.out.sm _ (List.mem_cons_self ..)
        have HOK : Hid (OkP (.mk k t l br bo no ta) ∧ it ≤ 1099511627776) := Lib.hid ⟨hsm.1, hsm.2.2.1⟩
        have HO : Hid (∀ q, Calls Try.prog 18 #[.pointer (some ⟨g, 0, none⟩), .agg #[.pointer (some ⟨g0, o0, none⟩), .int .i64 (i : Int), .int .i64 (it : Int), .int .i64 (sz : Int)]] (wr.drewN q) fun e W' => e = .returned (.int .i64 ((R0 : Int) + 1)) ∧ ∃ zv2, Hid (StM W' g bm bl zv2 R2) ∧ Hid (Mv (Fs g bm bl zv') wr (Fs g bm bl zv2) W')) := Lib.hid (fun q => by
          have hok := HOK.out.1
          have hs2 := hok.2.1
          simp only [smk] at hs2
          have h9 := ofNode_a g bm bl zv' S' (fun k => G k ∨ k = W.heap.size) k t l br bo no ta g0 o0 (i : Int) it sz (wr.drewN q) (HS.out.below (drew_below wr q)) (HIN.out.keep (keeps_below (drew_below wr q))) (fun k hk => HA.out k (.inr hk)) hok.2.2 hs2.1 hs2.2.1 HSB.out.1 (by have := HOK.out.2; omega) HL.out HSB.out.2
          refine h9.mono ?_
          rintro e W' ⟨rfl, zv2, h1, h2⟩
          refine ⟨?_, zv2, Lib.hid (by rw [hR2]; exact h1), Lib.hid ((mv_below _ (drew_below wr q)).trans h2)⟩
          have : (ndone k t bo no ta (it, sz, S')).1 = R0 + 1 := hR0
          rw [this]
          rfl)
        have HFD := Lib.hid hfd
        have HLT0 := Lib.hid hlt0
        have HLE2 := Lib.hid hlen2
        have HGN := Lib.hid hgn
        clear hk hR0 hlt0 hlen2 hR2 hfd hpr hsm hgn
        have m0 : (0 : Int) ≤ (m : Int) := by omega
        cases r with
        | nil =>
          have hm0 : m = 0 := HMM.out
          have em : ((m : Int) == 0) = true := by rw [hm0]; rfl
          have HFN : Hid (N = R0 + 1 ∧ SF = R2) := Lib.hid (by
            have h1 := HFI.out
            simp only [fin11] at h1
            rw [HFD.out] at h1
            simp only [Prod.mk.injEq] at h1
            exact ⟨h1.1.symm, h1.2.symm⟩)
          clear hm0
          go_wp2_with fail
          go_quiet (fail)
          go_wp2_with fail
          refine (HO.out _).mono ?_
          rintro e w2 ⟨rfl, zv2, HS2, HM2⟩
          go_wp2_with fail
          go_ret
          refine ⟨by rw [HFN.out.1]; rfl, zv2, by rw [HFN.out.2]; exact HS2.out, by rw [HFN.out.2]; exact HLE2.out, HM.out.trans HM2.out⟩
        | cons f2 r2 =>
          obtain ⟨m2, hm2⟩ : ∃ m2, m2 = r2.length := ⟨_, rfl⟩
          have hmm2 : m = m2 + 1 := by rw [HMM.out, hm2]; rfl
          have em : ((m : Int) == 0) = false := beq_false_of_ne (by omega)
          have gm3 : IntKind.i64.wrap ((m : Int) - 1) = (m2 : Int) := by rw [IntKind.wrap_i64]; omega
          have gm4 : wrap64 ((m : Int) - 1) = (m2 : Int) := by have := IntKind.wrap_i64 ((m : Int) - 1); unfold wrap64; omega
          have l1 : (m2 : Int) < (m : Int) := by omega
          have l0' : (0 : Int) ≤ (m2 : Int) := by omega
          have HM2E := Lib.hid hmm2
          have HR2 := Lib.hid hm2
          clear hmm2 hm2
          go_wp2_with fail
          go_quiet (fail)
          go_wp2_with fail
          refine (HO.out _).mono ?_
          rintro e w2 ⟨rfl, zv2, HS2, HM2⟩
          have ht2 : Tk w2 (fun k => G k ∨ k = W.heap.size) (W.heap.size + 1) (.slice (some ⟨b, 0, none⟩) (r2.length + 1) cap) (f2 :: r2) := by
            have h1 := HT.out.keep (HM2.out.keeps (fun k hk => HA.out k (.inr hk))) (fun k hk => HM2.out.block k (HT.out.row.lt k hk).2 (HA.out k (.inl hk)))
            rw [HMM.out] at h1
            exact h1.pop
          have HT2 := Lib.hid ht2
          obtain ⟨b2, cap2, e2, a1, a2, a3, a4, -, -, -, -, af⟩ := ht2.top
          simp only [Value.slice.injEq, Option.some.injEq, Addr.mk.injEq, and_true] at e2
          obtain ⟨rfl, -, rfl⟩ := e2
          rw [← HR2.out] at a1 a2 a3 a4
          have HAF := Lib.hid af
          clear ht2 af c1 c2 c3 c4 d2 z1
          obtain ⟨x2, i2, it2, sz2, gg2, oo2⟩ := f2
          simp only at a1 a2 a3 a4
          obtain ⟨z, hz⟩ : ∃ z, R2.zs[R0]? = some z := ⟨_, List.getElem?_eq_getElem HLT0.out⟩
          obtain ⟨LN, hLN⟩ : ∃ LN, LN = lnum (it2, R0 + 1, ⟨#[]⟩) R2.ls := ⟨_, rfl⟩
          obtain ⟨R3, hR3⟩ : ∃ R3 : Sto, R3 = { R2 with ls := ladd (it2, R0 + 1, ⟨#[]⟩) R2.ls } := ⟨_, rfl⟩
          have hkid : kid (R0 + 1, R2) it2 sz2 = (LN, sz2 + z, R3) := by
            unfold kid
            simp only [Nat.add_sub_cancel]
            rw [hz, hLN, hR3]
            rfl
          have hfi : fin11 ⟨x2, i2, LN, sz2 + z, gg2, oo2⟩ r2 R3 = (N, SF) := by
            have h1 := HFI.out
            simp only [fin11] at h1
            rw [HFD.out, hkid] at h1
            exact h1
          have hp3 := fin_pre r2 ⟨x2, i2, LN, sz2 + z, gg2, oo2⟩ R3
          rw [hfi] at hp3
          have hp3 : R3.pre SF := hp3
          have hz3 : R3.zs[R0]? = some z := by rw [hR3]; exact hz
          have hz5 : z ≤ 5000 := HFB.out.2.2 z (hp3.len.2.2.2 z (List.mem_of_getElem? hz3))
          have hl3 : R3.ls = ladd (it2, R0 + 1, ⟨#[]⟩) R2.ls := by rw [hR3]
          have hLN3 : LN ≤ 1099511627776 := by
            have h1 := lnum_le (it2, R0 + 1, ⟨#[]⟩) R2.ls
            rw [← hl3, ← hLN] at h1
            have := hp3.len.1
            have := HFB.out.1
            omega
          have hl2 : R2.ls.length ≤ 1099511627776 := by
            obtain ⟨m9, h9⟩ := ladd_pre (it2, R0 + 1, ⟨#[]⟩) R2.ls
            have h1 := congrArg List.length h9
            rw [List.length_append, ← hl3] at h1
            have := hp3.len.1
            have := HFB.out.1
            omega
          have hsm2 := HT2.out.sm _ (List.mem_cons_self ..)
          simp only at hsm2
          have hR0b : R0 ≤ 1000000 := by
            have h1 := hp3.len.2.1
            have h2 := HFB.out.2.1
            have h3 := HLE2.out
            have h4 := HLT0.out
            have h5 : R3.ks = R2.ks := by rw [hR3]
            rw [h5] at h1
            omega
          have HO2 : Hid (Calls Try.prog 19 #[.pointer (some ⟨g, 0, none⟩), .agg #[.int .i64 (it2 : Int), .int .i64 ((R0 : Int) + 1), .string ⟨#[]⟩]] w2 fun e w' => e = .returned (.int .i64 (LN : Int)) ∧ Hid (StM w' g bm bl zv2 R3) ∧ Hid (Mv (fun k => k = bl) w2 (fun k => k = bl) w')) := Lib.hid (by
            have h9 := ofList_any g bm bl zv2 R2 it2 (R0 + 1) ⟨#[]⟩ w2 HS2.out (by omega) (by omega) (Nat.zero_le _) (by omega)
            rw [← hLN, ← hR3] at h9
            exact h9.mono fun e w' ⟨h1, h2, h3⟩ => ⟨h1, Lib.hid h2, Lib.hid h3⟩)
          have htl2 : sz2 + 5000 ≤ 1 + 5000 * i2 := HT.out.tl ⟨x2, i2, it2, sz2, gg2, oo2⟩ (by simp)
          have hi2 : i2 ≤ 5000 := by
            have h1 := hsm2.1.1
            have h2 := cnt_kds x2
            have h3 := len_cntP (kds' x2)
            have h4 := hsm2.2.1
            omega
          have hnb : ∀ k, ((Value.slice (some ⟨b, 0, none⟩) m cap).ownBlock = some k ∨ (G k ∨ k = W.heap.size)) → ¬ Fs g bm bl zv2 k := fun k hk hf => by
            have hk' : (Value.slice (some ⟨b, 0, none⟩) (m + 1) cap).ownBlock = some k ∨ (G k ∨ k = W.heap.size) := hk
            rcases HM2.out.own k hf with h1 | h1
            · exact HA.out k hk' h1
            · have h2 := HBB.out
              have h3 := HBL.out
              rcases hk with hk | hk
              · simp only [Value.ownBlock, Option.some.injEq] at hk
                omega
              · have := HT.out.pp k hk
                omega
          have HNB := Lib.hid hnb
          have HFI2 := Lib.hid hfi
          have HZ3 := Lib.hid hz3
          have HSM2 := Lib.hid (⟨hsm2.1, hsm2.2.1, hLN3⟩ : OkP x2 ∧ i2 ≤ (kds' x2).length ∧ LN ≤ 1099511627776)
          have HTL2 := Lib.hid htl2
          have HZ5 := Lib.hid hz5
          have HL3 : Hid (R3.zs.length = R3.ks.length) := Lib.hid (by rw [hR3]; exact HLE2.out)
          have gs : IntKind.i64.wrap ((sz2 : Int) + (z : Int)) = (sz2 : Int) + (z : Int) := by rw [IntKind.wrap_i64]; omega
          have gr : IntKind.i64.wrap ((R0 : Int) + 1 - 1) = (R0 : Int) := by rw [IntKind.wrap_i64]; omega
          have gr2 : wrap64 (R0 : Int) = (R0 : Int) := by have := IntKind.wrap_i64 (R0 : Int); unfold wrap64; omega
          have r0 : (0 : Int) ≤ (R0 : Int) := Int.natCast_nonneg R0
          clear hz hLN hR3 hkid hfi hp3 hz3 hz5 hl3 hLN3 hl2 hsm2 hR0b htl2 hi2 hnb
          go_wp2_with fail
          refine HO2.out.mono ?_
          rintro e w3 ⟨rfl, HS3, HM3⟩
          have hbf : ¬ Fs g bm bl zv2 b := HNB.out b (.inl rfl)
          have hm3 : Mv (Fs g bm bl zv2) w2 (Fs g bm bl zv2) w3 := HM3.out.up (fun k hk => .inr (.inr (.inl hk)))
          have ht3 : Tk w3 (fun k => G k ∨ k = W.heap.size) (W.heap.size + 1) (.slice (some ⟨b, 0, none⟩) (m2 + 1) cap) (⟨x2, i2, it2, sz2, gg2, oo2⟩ :: r2) := by
            rw [HR2.out]
            exact HT2.out.keep (hm3.keeps (fun k hk => HNB.out k (.inr hk))) (fun k hk => hm3.block k (HT2.out.row.lt k hk).2 (HNB.out k (.inl hk)))
          obtain ⟨b3, cap3, e3, y1, y2, y3, y4, -, -, -, -, yf⟩ := ht3.top
          simp only [Value.slice.injEq, Option.some.injEq, Addr.mk.injEq, and_true] at e3
          obtain ⟨rfl, -, rfl⟩ := e3
          rw [← HR2.out] at y1 y2 y3 y4
          have yf2 := yf (m2 * 4 + 2)
          obtain ⟨w4, hw4⟩ : ∃ w4, w4 = w3.setCell ⟨b, m2 * 4 + 2, none⟩ (.int .i64 (LN : Int)) := ⟨_, rfl⟩
          have ht4 : Tk w4 (fun k => G k ∨ k = W.heap.size) (W.heap.size + 1) (.slice (some ⟨b, 0, none⟩) (m2 + 1) cap) (⟨x2, i2, LN, sz2, gg2, oo2⟩ :: r2) := by
            rw [hw4]
            have h1 := ht3
            rw [HR2.out] at h1 ⊢
            exact h1.setTop ⟨x2, i2, LN, sz2, gg2, oo2⟩ ⟨rfl, rfl, rfl⟩ 2 (.int .i64 (LN : Int)) rfl ⟨HSM2.out.2.1, HSM2.out.2.2, (h1.sm _ (List.mem_cons_self ..)).2.2.2⟩ h1.few
          have hs4 : StM w4 g bm bl zv2 R3 := by rw [hw4]; exact HS3.out.set hbf _ _
          have hm4 : Mv (Fs g bm bl zv) W (Fs g bm bl zv2) w4 := by
            rw [hw4]
            exact ((HM.out.trans HM2.out).trans hm3).new (by have := HBB.out; omega) _ _
          have HT4 := Lib.hid ht4
          have HS4 := Lib.hid hs4
          have HM4 := Lib.hid hm4
          have HW4 := Lib.hid hw4
          clear hm3 ht3 hw4 ht4 hs4 hm4 y1 y2 y4 yf a1 a2 a4 hbf
          go_wp2_with fail
          rw [← HW4.out]
          clear y3 yf2 a3
          obtain ⟨b4, cap4, e4, -, -, -, v4, -, -, -, -, vf⟩ := HT4.out.top
          simp only [Value.slice.injEq, Option.some.injEq, Addr.mk.injEq, and_true] at e4
          obtain ⟨rfl, -, rfl⟩ := e4
          simp only at v4
          rw [← HR2.out] at v4
          have vf3 := vf (m2 * 4 + 3)
          have vg := HS4.out.cells.2.2
          obtain ⟨zb, zc, rfl, vz, -⟩ := HS4.out.size HZ3.out
          obtain ⟨LZ, hLZ⟩ : ∃ LZ, LZ = R3.zs.length := ⟨_, rfl⟩
          have r1 : (R0 : Int) < (LZ : Int) := by rw [hLZ]; exact Int.ofNat_lt.2 (List.getElem?_eq_some_iff.1 HZ3.out).1
          rw [← hLZ] at vg
          have ht5 : Tk (w4.drew.setCell ⟨b, m2 * 4 + 3, none⟩ (.int .i64 ((sz2 : Int) + (z : Int)))) (fun k => G k ∨ k = W.heap.size) (W.heap.size + 1) (.slice (some ⟨b, 0, none⟩) m cap) (⟨x2, i2, LN, sz2 + z, gg2, oo2⟩ :: r2) := by
            have h1 : Tk w4.drew (fun k => G k ∨ k = W.heap.size) (W.heap.size + 1) (.slice (some ⟨b, 0, none⟩) (m2 + 1) cap) (⟨x2, i2, LN, sz2, gg2, oo2⟩ :: r2) := HT4.out.below (Below.drew (Below.refl _ _))
            rw [HM2E.out]
            rw [HR2.out] at h1 ⊢
            exact h1.setTop ⟨x2, i2, LN, sz2 + z, gg2, oo2⟩ ⟨rfl, rfl, rfl⟩ 3 (.int .i64 ((sz2 : Int) + (z : Int))) rfl ⟨HSM2.out.2.1, HSM2.out.2.2, Nat.le_trans (Nat.add_le_add_left HZ5.out sz2) HTL2.out⟩ h1.few
          have hs5 : StM (w4.drew.setCell ⟨b, m2 * 4 + 3, none⟩ (.int .i64 ((sz2 : Int) + (z : Int)))) g bm bl _ R3 := (HS4.out.keep (W' := w4.drew) (fun _ _ => rfl)).set (HNB.out b (.inl rfl)) _ _
          have hm5 : Mv (Fs g bm bl zv) W _ (w4.drew.setCell ⟨b, m2 * 4 + 3, none⟩ (.int .i64 ((sz2 : Int) + (z : Int)))) := (HM4.out.trans (mv_below _ (Below.drew (Below.refl _ _)))).new (by have := HBB.out; exact Nat.le_trans (Nat.le_succ _) this) _ _
          have HT5 := Lib.hid ht5
          have HS5 := Lib.hid hs5
          have HM5 := Lib.hid hm5
          clear vf hLZ ht5 hs5 hm5
          go_region
          all_goals go_wp2_with fail
          all_goals go_roundg (2 * remV (⟨x2, i2, LN, sz2 + z, gg2, oo2⟩ :: r2) + r2.length)
          case measure => rw [HGN.out]; exact rem_pop11 _ _ _ _ _ _ _ _ _ _
          case rel => exact ⟨⟨x2, i2, LN, sz2 + z, gg2, oo2⟩, r2, R3, _, rfl, HT5, HS5, HM5, HNB, HFI2, HL3⟩
end Go.Proofs.Ytkngnkonddpbeaa
