/-
  THE PROGRAM's inOrder: a document and all that is in it, in their order.
-/
import Derived.Test.YtbjgoigdhijbgaaDoorRendRows
import Derived.Test.YtbjgoigdhijbgaaDoorRefFlat
set_option linter.all false
namespace Go.Proofs.YtbjgoigdhijbgaaDoor
open Go.RowKit Go.PlainAid Go.Shelf

/-- What is so of all that is to come: it may be; how far right it is at most. -/
def GdE (E : List Ent) : Prop := ∀ e ∈ E, drt e.x = true ∧ 0 ≤ e.r ∧ e.r + 1000 * (dcnt e.x : Int) ≤ 100000000 ∧ e.f = false
theorem drt_nest {k n : Int} {t : ByteArray} {l : List Dc} (h : drt (.mk k n t l) = true) (hk : k = 6) : 0 ≤ n ∧ n ≤ 1000 := by
  simp only [drt, Bool.and_eq_true] at h
  have h1 := h.1
  subst hk
  simp [dal] at h1
  omega
theorem drt_kids {k n : Int} {t : ByteArray} {l : List Dc} (h : drt (.mk k n t l) = true) : drtL l = true := by
  simp only [drt, Bool.and_eq_true] at h; exact h.2
theorem prE_len : ∀ E : List Ent, (prE E).length = cntE E
  | [] => rfl
  | e :: t => by simp only [prE, cntE, List.length_append, prO_len, prE_len t]; omega
theorem rgt_mk (r k n : Int) (t : ByteArray) (l : List Dc) : rgt r (.mk k n t l) = if k = 6 then r + n else r := rfl
theorem gd_kids {E0 : List Ent} {e : Ent} {k n : Int} {t : ByteArray} {l : List Dc} (he : e.x = .mk k n t l) (h : GdE (E0 ++ [e])) (gl ol : Nat) : ∀ j, j ≤ l.length → GdE (E0 ++ kidsE gl ol l (rgt e.r e.x) j)
  | 0, _ => by
    intro a ha
    simp only [kidsE, List.append_nil] at ha
    exact h a (List.mem_append_left _ ha)
  | j + 1, hj => by
    intro a ha
    rw [kidsE, ← List.append_assoc] at ha
    rcases List.mem_append.1 ha with ha | ha
    · exact gd_kids he h gl ol j (by omega) a ha
    · simp only [List.mem_cons, List.not_mem_nil, or_false] at ha
      subst ha
      obtain ⟨h1, h2, h3, h4⟩ := h e (List.mem_append_right _ (List.mem_cons_self ..))
      have hi : l.length - 1 - j < l.length := by omega
      have hg : l.getD (l.length - 1 - j) (.mk 0 0 ⟨#[]⟩ []) = l[l.length - 1 - j] := by rw [List.getD_eq_getElem?_getD, List.getElem?_eq_getElem hi]; rfl
      have hm : l[l.length - 1 - j] ∈ l := List.getElem_mem hi
      have hc := dcnt_at (List.getElem?_eq_getElem hi)
      rw [he] at h1 h3
      simp only [dcnt] at h3
      refine ⟨by show drt (l.getD _ _) = true; rw [hg]; exact drt_at (drt_kids h1) hm, ?_, ?_, rfl⟩
      · show 0 ≤ rgt e.r e.x
        rw [he, rgt_mk]
        by_cases hk : k = 6
        · rw [if_pos hk]; have := drt_nest h1 hk; omega
        · rw [if_neg hk]; exact h2
      · show rgt e.r e.x + 1000 * (dcnt (l.getD _ _) : Int) ≤ _
        rw [hg, he, rgt_mk]
        by_cases hk : k = 6
        · rw [if_pos hk]; have := drt_nest h1 hk; omega
        · rw [if_neg hk]; omega
set_option maxRecDepth 100000 in
set_option maxHeartbeats 4000000 in
theorem inOrder_any (d : Dc) (hd : dcnt d ≤ 90000) (hr : drt d = true) (B o : Nat) (w : World) (P : Nat → Prop) (h : DIn w P B o d) (hP : ∀ g, P g → g < w.heap.size) :
    Calls Tryd.prog 38 #[.pointer (some ⟨B, o, none⟩)] w fun e W' => ∃ a c R, e = .returned (.slice a R.length c) ∧ CmR W' w.heap.size (.slice a R.length c) R ∧ OkE W' P R ∧ R.map xr = prO 0 d ∧ (∀ e ∈ R, e.f = false) ∧ Below w.heap.size w W' := by
  obtain ⟨s, hs⟩ : ∃ s, s = w.heap.size := ⟨_, rfl⟩
  obtain ⟨W1, hW1⟩ : ∃ W1, W1 = w.alloc (.cells #[.pointer (some ⟨B, o, none⟩), .int .i64 0, .bool false] 56) := ⟨_, rfl⟩
  have b1 : W1.heap[s]? = some (.cells #[.pointer (some ⟨B, o, none⟩), .int .i64 0, .bool false] 56 (0, 0)) := by rw [hW1, hs]; exact new_at9
  have hB1 : Below s w W1 := by rw [hW1, hs]; exact below1 _ _
  have hT1 : Ro2 W1 P s (.slice none 0 0) [] (.slice (some ⟨s, 0, none⟩) 1 1) [⟨d, B, o, 0, false⟩] := by
    refine ⟨CmR.nil _ _, ⟨rfl, .inr ⟨s, 1, _, rfl, Nat.le_refl _, b1, Nat.le_refl _, by decide, rfl, rfl⟩⟩, fun k hk => (by cases hk), fun e he => (by cases he), fun e he => ?_, by have := lt_of_block b1; omega, fun g hg => by rw [hs]; exact hP g hg⟩
    simp only [List.mem_cons, List.not_mem_nil, or_false] at he
    subst he
    exact h.keep ⟨hB1.size, fun g hg hl => hB1.block g (by rw [hs]; exact hl)⟩
  have HT1 := Lib.hid hT1
  have HG1 : Hid (GdE [⟨d, B, o, 0, false⟩] ∧ ([] : List Ent).map xr ++ prE [⟨d, B, o, 0, false⟩] = prO 0 d ∧ ∀ e ∈ ([] : List Ent), e.f = false) := Lib.hid ⟨fun e he => by
    simp only [List.mem_cons, List.not_mem_nil, or_false] at he
    subst he
    exact ⟨hr, Int.le_refl _, by show (0 : Int) + 1000 * (dcnt d : Int) ≤ 100000000; omega, rfl⟩, by simp [prE], fun e he => by cases he⟩
  have HB1 := Lib.hid hB1
  have HS := Lib.hid hs
  have HC0 : Hid (cntE [⟨d, B, o, 0, false⟩] = dcnt d) := Lib.hid (by simp [cntE])
  clear hT1 hB1 b1 h hP hr
  go_enter Tryd.func38, Tryd.ntmps38
  go_wp2_with fail
  go_loopg [3, 4] (dcnt d) (fun gn v u wr => ∃ (R E : List Ent), gn = cntE E ∧ Hid (Ro2 wr P s v R u E) ∧ Hid (GdE E ∧ R.map xr ++ prE E = prO 0 d ∧ ∀ e ∈ R, e.f = false) ∧ Hid (Below s w wr))
  case atStart =>
    obtain rfl := hs
    obtain rfl := hW1
    exact ⟨[], _, HC0.out.symm, HT1, HG1, HB1⟩
  case round =>
    clear hs hW1 HT1 HG1 HB1 HC0
    obtain ⟨R, E, hgn, HT, HG, HB⟩ := hrel
    obtain ⟨av, cv, rfl, hcv, hcv2⟩ := HT.out.row.slice
    have HGN := Lib.hid hgn
    clear hgn
    rcases List.eq_nil_or_concat E with rfl | ⟨E0, e, hE⟩
    · obtain ⟨au, cu, rfl, -, -⟩ := HT.out.rst.slice
      go_wp2_with fail
      go_ret
      refine ⟨av, cv, R, rfl, ?_, HT.out.okR, ?_, HG.out.2.2, by rw [← HS.out]; exact HB.out⟩
      · rw [← HS.out]; exact HT.out.row
      · have := HG.out.2.1; simpa [prE] using this
    · rw [List.concat_eq_append] at hE
      subst hE
      obtain ⟨au, cu, rfl, hcu, hcu2⟩ := HT.out.rst.slice
      obtain ⟨gr, rfl, hgb, hgl, hfz, c0, c1, c2⟩ := HT.out.rst.at (i := E0.length) (e := e) (by simp)
      obtain ⟨m, hm⟩ : ∃ m, m = E0.length := ⟨_, rfl⟩
      have hlen : (E0 ++ [e]).length = m + 1 := by simp [hm]
      rw [hlen] at hcu HT ⊢
      rw [← hm] at c0 c1 c2
      have HM := Lib.hid hm
      clear hm hlen
      have hen : DIn wr P e.g e.o e.x := HT.out.ok e (by simp)
      obtain ⟨x, eg, eo, er, ef⟩ := e
      simp only at hen c0 c1 c2 HGN
      obtain ⟨k, n, t, l⟩ := x
      obtain ⟨al, cl, y0, y1, y2, y3, hrl⟩ := hen.open
      have hegs : eg < s := HT.out.pp eg hen.1
      have HDI := Lib.hid hen
      have HRL := Lib.hid hrl
      have hws : s ≤ wr.heap.size := HT.out.lt
      have HT4 : Hid (Ro2 wr P s (.slice av R.length cv) R (.slice (some ⟨gr, 0, none⟩) m cu) E0) := Lib.hid (by
        have h1 := HT.out
        rw [HM.out] at h1 ⊢
        exact h1.pop)
      have hm9 : m + 1 ≤ 90000 := by
        have h1 := congrArg List.length HG.out.2.1
        rw [prO_len] at h1
        simp only [List.length_append, List.length_map, prE_len] at h1
        have h2 := lenE_cnt (E0 ++ [(⟨.mk k n t l, eg, eo, er, ef⟩ : Ent)])
        simp only [List.length_append, List.length_cons, List.length_nil] at h2
        have := HM.out
        omega
      have hrn : R.length ≤ 1000000 := by
        have h1 := congrArg List.length HG.out.2.1
        rw [prO_len] at h1
        simp only [List.length_append, List.length_map] at h1
        omega
      obtain ⟨q, hq⟩ : ∃ q, q = wr.heap.size := ⟨_, rfl⟩
      have B2 : Below wr.heap.size wr ((wr.alloc (.cells #[.pointer (some ⟨eg, eo, none⟩), .int .i64 er, .bool ef] 56)).alloc (.cells #[.pointer (some ⟨eg, eo, none⟩), .int .i64 er, .bool ef] 56)) := (below1 _ _).alloc (by simp) _
      have HB2 := Lib.hid B2
      have HT5 := Lib.hid (HT4.out.keep B2)
      clear hen hrl B2
      go_upto_region 7 with (at_builtin; go_must (refine wpList_append_cm rfl _ _ rfl s _ R rfl HT5.out.row (wr.heap.size + 1) ⟨.mk k n t l, eg, eo, er, ef⟩ rfl (new_at8 (by simp)) (by omega) (by simp; omega) ?_); intro v5 w5 hown hgrow hwh)
      obtain ⟨hT6, hb6⟩ := HT4.out.put HB2.out hown hgrow hwh (e := ⟨.mk k n t l, eg, eo, er, ef⟩) HDI.out
      obtain ⟨a5, c5, rfl, -, -⟩ := hT6.row.slice
      have hbx : w5.heap[wr.heap.size]? = some (.cells #[.pointer (some ⟨eg, eo, none⟩), .int .i64 er, .bool ef] 56) := by
        rw [hgrow.block wr.heap.size (by simp; omega) (fun e => by have := own_lt HT4.out.row e.symm; omega), old_at9 (by simp)]
        exact new_at9
      have HT6 := Lib.hid hT6
      have HB6 : Hid (Below s w w5) := Lib.hid (HB.out.trans hb6)
      have hkp : Keeps P wr w5 := ⟨hb6.size, fun g hg hl => hb6.block g (HT.out.pp g hg)⟩
      have HD6 := Lib.hid (HDI.out.keep hkp)
      have HRL6 := Lib.hid (HRL.out.keep hkp)
      obtain ⟨⟨x0, x1, x2⟩, -⟩ := three_of hbx
      have z0 := (hb6.cell (p := ⟨eg, eo, none⟩) hegs).trans y0
      have z1 := (hb6.cell (p := ⟨eg, eo + 1, none⟩) hegs).trans y1
      have z3 := (hb6.cell (p := ⟨eg, eo + 3, none⟩) hegs).trans y3
      have HBX := Lib.hid hbx
      obtain ⟨g1, g2, g3, g4⟩ := HG.out.1 ⟨.mk k n t l, eg, eo, er, ef⟩ (by simp)
      simp only at g1 g2 g3 g4
      have HG4 := Lib.hid g4
      clear g4
      have hln : l.length ≤ 90000 := by
        have h1 := congrArg List.length HG.out.2.1
        rw [prO_len] at h1
        simp only [List.length_append, List.length_map, prE_len, cntE_snoc, dcnt] at h1
        have := len_dcntL l
        omega
      have HN6 : Hid (k = 6 → 0 ≤ n ∧ n ≤ 1000) := Lib.hid (drt_nest g1)
      have HSW := Lib.hid hb6.size
      have hcl : l.length ≤ cl ∧ cl ≤ maxLen := by obtain ⟨cs, ⟨a', cp, e, h1, h2, -⟩, -⟩ := HRL6.out; cases e; exact ⟨h1, h2⟩
      have hew : er ≤ 100000000 := by have : (0 : Int) ≤ (dcnt (Dc.mk k n t l) : Int) := Int.natCast_nonneg _; omega
      have HGL : Hid (gr ≠ wr.heap.size) := Lib.hid (by omega)
      obtain ⟨gl, ol, hal⟩ : ∃ gl ol, 0 < l.length → al = some ⟨gl, ol, none⟩ := by
        obtain ⟨cs, ⟨a', cp, e, -, -, h2⟩, -⟩ := HRL6.out
        cases e
        by_cases h0 : 0 < l.length
        · obtain ⟨gl, ol, h3, -⟩ := h2 h0; exact ⟨gl, ol, fun _ => h3⟩
        · exact ⟨0, 0, fun h => absurd h h0⟩
      have HAL := Lib.hid hal
      have hwr5 : wr.heap.size < w5.heap.size := lt_of_block hbx
      have HW5 := Lib.hid hwr5
      clear hal hwr5 hown hgrow hwh hT6 hb6 hbx hkp c0 c1 c2 y0 y1 y2 y3 g1 g3 hfz hgb hgl HT5 HB2 HDI HRL HT
      obtain ⟨bx, hbxe⟩ : ∃ bx, bx = wr.heap.size := ⟨_, rfl⟩
      obtain ⟨ee, hee⟩ : ∃ ee : Ent, ee = ⟨.mk k n t l, eg, eo, er, ef⟩ := ⟨_, rfl⟩
      obtain ⟨RL, hRL⟩ : ∃ RL, RL = (R ++ [(⟨.mk k n t l, eg, eo, er, ef⟩ : Ent)]).length := ⟨_, rfl⟩
      obtain ⟨N, hN⟩ : ∃ N, N = l.length := ⟨_, rfl⟩
      rw [← hRL] at HT6 ⊢
      rw [← hee] at HT6
      rw [← hbxe] at HGL HBX HW5 x0 x1 x2 ⊢
      rw [← hN] at z3 hln hcl HAL
      have HEE := Lib.hid hee
      have HNN := Lib.hid hN
      obtain ⟨rr, hrr⟩ : ∃ rr, rr = rgt er (.mk k n t l) := ⟨_, rfl⟩
      have HRR := Lib.hid hrr
      have hup : (k = 6 ∧ rr = er + n ∧ IntKind.i64.wrap (er + n) = er + n) ∨ (¬ k = 6 ∧ rr = er) := by
        by_cases hk : k = 6
        · obtain ⟨hn0, hn1⟩ := HN6.out hk
          exact .inl ⟨hk, by rw [hrr, rgt_mk, if_pos hk], by rw [IntKind.wrap_i64]; omega⟩
        · exact .inr ⟨hk, by rw [hrr, rgt_mk, if_neg hk]⟩
      clear hbxe hee hRL hN hrr
      rcases hup with ⟨hk, hr1, hr2⟩ | ⟨hk, hr1⟩
      all_goals
        first
        | (have hkt : (k == 6) = true := by simp [hk])
        | (have hkt : (k == 6) = false := by simp [hk])
        go_upto_region 11 with fail
        try rw [← hr1]
        clear hkt hk
        try clear hr2
        clear hr1
        go_loopg [4, 50] N (fun gn u c wi => ∃ (j : Nat), gn = N - j ∧ j ≤ N ∧ c = .int .i64 (j : Int) ∧ Hid (Ro2 wi P s (.slice a5 RL c5) (R ++ [ee]) u (E0 ++ kidsE gl ol l rr j)) ∧ Hid (∀ k, u.ownBlock = some k → k ≠ bx) ∧ Hid (wi.heap[bx]? = some (.cells #[.pointer (some ⟨eg, eo, none⟩), .int .i64 er, .bool ef] 56)) ∧ Hid (Below s w5 wi))
        case atStart =>
          exact ⟨0, rfl, Nat.zero_le _, rfl, by simpa [kidsE] using HT6, Lib.hid (fun k hk => by cases hk; exact HGL.out), HBX, Lib.hid (Below.refl _ _)⟩
        case round =>
          obtain ⟨j, hgn, hj, rfl, HTi, HNi, HXi, HBi⟩ := hrel
          obtain ⟨ai, ci, rfl, hci, hci2⟩ := HTi.out.rst.slice
          by_cases hlt : j < N
          · obtain rfl := HAL.out (by omega)
            obtain ⟨jj, hjj⟩ : ∃ jj, jj = N - 1 - j := ⟨_, rfl⟩
            have hAB : (N : Int) - 1 - (j : Int) = (jj : Int) := by omega
            have hwA : IntKind.i64.wrap ((N : Int) - 1) = (N : Int) - 1 := by rw [IntKind.wrap_i64]; omega
            have hwB : IntKind.i64.wrap ((N : Int) - 1 - (j : Int)) = (jj : Int) := by rw [IntKind.wrap_i64]; omega
            have hj0 : (0 : Int) ≤ (jj : Int) := by omega
            have hj1 : (jj : Int) < (N : Int) := by omega
            have jn : (j : Int) < (N : Int) := by omega
            have hwC : wrap64 ((N : Int) - 1) = (N : Int) - 1 := by unfold wrap64; omega
            have hwD : wrap64 ((N : Int) - 1 - (j : Int)) = (jj : Int) := by unfold wrap64; omega
            have HJJ := Lib.hid hjj
            clear hAB
            obtain ⟨⟨x0, x1, x2⟩, -⟩ := three_of HXi.out
            have zz3 := (HBi.out.cell (p := ⟨eg, eo + 3, none⟩) hegs).trans z3
            obtain ⟨EC, hEC⟩ : ∃ EC, EC = E0 ++ kidsE gl ol l rr j := ⟨_, rfl⟩
            obtain ⟨EN, hEN⟩ : ∃ EN, EN = EC.length := ⟨_, rfl⟩
            rw [← hEC] at HTi hci HNi ⊢
            rw [← hEN] at HTi hci HNi ⊢
            have HEC := Lib.hid hEC
            have HEN := Lib.hid hEN
            have hlE : EC.length ≤ 1000000 := by
              rw [hEC, List.length_append, kidsE_len]
              have := HM.out
              omega
            have hbw : bx < wr.drew.heap.size := lt_of_block HXi.out
            have hkid : DIn wr P gl (ol + jj * 4) (l.getD jj (.mk 0 0 ⟨#[]⟩ [])) := by
              have hi : jj < l.length := by rw [← HNN.out]; omega
              have h1 := (HRL6.out.keep (W' := wr) ⟨HBi.out.size, fun g hg hl => HBi.out.block g (HTi.out.pp g hg)⟩).nth (i := jj) (x := l[jj]) (List.getElem?_eq_getElem hi)
              rw [List.getD_eq_getElem?_getD, List.getElem?_eq_getElem hi]
              exact h1
            have HKD := Lib.hid hkid
            have hbw2 : bx < wr.heap.size := lt_of_block HXi.out
            have HGB : Hid (∀ ob w8, ((wr.alloc ob).drew).grownBy w8 (Value.slice ai EN ci).ownBlock → w8.heap[bx]? = some (.cells #[.pointer (some ⟨eg, eo, none⟩), .int .i64 er, .bool ef] 56)) := Lib.hid fun ob w8 h => by
              rw [h.block bx (by show bx < (wr.alloc ob).heap.size; simp; omega) (fun e => HNi.out bx e.symm rfl)]
              exact (old_at9 (W := wr) hbw2).trans HXi.out
            have HZ3 : Hid (∀ w8, Below s wr w8 → w8.cell? ⟨eg, eo + 3, none⟩ = some (.slice (some ⟨gl, ol, none⟩) N cl)) := Lib.hid fun w8 h => (h.cell (p := ⟨eg, eo + 3, none⟩) hegs).trans zz3
            have HTd : Hid (∀ ob, Ro2 ((wr.alloc ob).drew) P s (.slice a5 RL c5) (R ++ [ee]) (.slice ai EN ci) EC) := Lib.hid fun ob => HTi.out.keep (Below.drew (below1 wr ob))
            have HSd : Hid (s ≤ wr.drew.heap.size) := Lib.hid HTi.out.lt
            have d0 : wr.drew.cell? ⟨bx, 0, none⟩ = some (.pointer (some ⟨eg, eo, none⟩)) := x0
            have d3 : wr.drew.cell? ⟨eg, eo + 3, none⟩ = some (.slice (some ⟨gl, ol, none⟩) N cl) := zz3
            have hed : eg < wr.drew.heap.size := by have := HTi.out.lt; show eg < wr.heap.size; omega
            have SA : Hid (∀ ob, ((wr.alloc ob).drew).cell? ⟨bx, 0, none⟩ = some (.pointer (some ⟨eg, eo, none⟩)) ∧ ((wr.alloc ob).drew).cell? ⟨eg, eo + 3, none⟩ = some (.slice (some ⟨gl, ol, none⟩) N cl)) := Lib.hid fun ob => ⟨((below1 wr ob).cell (p := ⟨bx, 0, none⟩) hbw).trans d0, ((below1 wr ob).cell (p := ⟨eg, eo + 3, none⟩) hed).trans d3⟩
            clear hEC hEN hkid zz3 x0 x1 x2 hbw hjj
            go_wp2_with fail
            go_region_held3 (fun W => W.cell? ⟨bx, 0, none⟩ = some (.pointer (some ⟨eg, eo, none⟩)) ∧ W.cell? ⟨eg, eo + 3, none⟩ = some (.slice (some ⟨gl, ol, none⟩) N cl)) (first | exact ⟨d0, d3⟩ | exact SA.out _ | exact hs8) (first
              | (refine step_append_cm rfl _ _ rfl s _ EC rfl (HTd.out _).rst wr.heap.size ⟨l.getD jj (.mk 0 0 ⟨#[]⟩ []), gl, ol + jj * 4, rr, false⟩ rfl (show ((wr.alloc _).drew).heap[wr.heap.size]? = _ from new_at9 (W := wr)) (Nat.le_trans hlE (by decide)) (by have := HSd.out; simp at this ⊢; omega) ?_; intro v8 w8 q1 q2 q3; obtain ⟨q4, q5⟩ := HTi.out.push (Below.drew (below1 wr _)) q1 q2 q3 (e := ⟨l.getD jj (.mk 0 0 ⟨#[]⟩ []), gl, ol + jj * 4, rr, false⟩) HKD.out; obtain ⟨a8, c8, rfl, -, -⟩ := q1.slice; have hx8 := HGB.out _ _ q2; have hs8 : w8.cell? ⟨bx, 0, none⟩ = some (.pointer (some ⟨eg, eo, none⟩)) ∧ w8.cell? ⟨eg, eo + 3, none⟩ = some (.slice (some ⟨gl, ol, none⟩) N cl) := ⟨(three_of hx8).1.1, HZ3.out _ q5⟩))
            have HX8 := Lib.hid hx8
            have hn8 : ∀ k, (Value.slice a8 (EC.length + 1) c8).ownBlock = some k → k ≠ bx := fun k hk => by
              have hk' : (Value.slice a8 (EC ++ [(⟨l.getD jj (.mk 0 0 ⟨#[]⟩ []), gl, ol + jj * 4, rr, false⟩ : Ent)]).length c8).ownBlock = some k := by simpa using hk
              rcases q3 with h | h
              · exact HNi.out k (h.symm.trans hk')
              · have h2 := hk'.symm.trans h
                simp at h2
                have := lt_of_block HXi.out
                omega
            have HS8 : Hid (Below s w5 w8) := Lib.hid (HBi.out.trans q5)
            have HN8 := Lib.hid hn8
            have q6 : Ro2 w8 P s (.slice a5 RL c5) (R ++ [ee]) (.slice a8 (EC.length + 1) c8) (E0 ++ kidsE gl ol l rr (j + 1)) := by
              have e : E0 ++ kidsE gl ol l rr (j + 1) = EC ++ [⟨l.getD jj (.mk 0 0 ⟨#[]⟩ []), gl, ol + jj * 4, rr, false⟩] := by rw [kidsE, ← List.append_assoc, ← HEC.out, kidE, ← HNN.out, ← HJJ.out]
              rw [e]
              simpa using q4
            have HQ6 := Lib.hid q6
            clear q1 q2 q3 q4 q5 q6 hx8 hs8 hn8 d0 d3 HTd SA HGB HZ3 HKD
            go_wp2_with fail
            go_roundg (N - (j + 1))
            case measure => omega
            case rel => exact ⟨j + 1, rfl, hlt, by go_num, HQ6, HN8, HX8, HS8⟩
          · obtain rfl : j = N := by omega
            have jn : ¬ (j : Int) < (j : Int) := by omega
            have hkc := kids_cnt gl ol l rr E0 l.length (Nat.le_refl _)
            have hkp := kids_pr gl ol l rr E0 l.length (Nat.le_refl _)
            rw [Nat.sub_self, List.drop_zero, ← HNN.out] at hkc hkp
            have HKC := Lib.hid hkc
            have HKP := Lib.hid hkp
            clear hkc hkp
            obtain ⟨EC, hEC⟩ : ∃ EC, EC = E0 ++ kidsE gl ol l rr j := ⟨_, rfl⟩
            obtain ⟨EN, hEN⟩ : ∃ EN, EN = EC.length := ⟨_, rfl⟩
            rw [← hEC] at HTi hci HKC HKP ⊢
            rw [← hEN] at HTi hci ⊢
            have HEC := Lib.hid hEC
            clear hEC hEN
            go_wp2_with fail
            go_roundg (cntE EC)
            case measure =>
              have h1 := HGN.out
              rw [cntE_snoc] at h1
              simp only [dcnt] at h1
              have := HKC.out
              omega
            case rel =>
              refine ⟨R ++ [ee], EC, rfl, HTi, Lib.hid ⟨?_, ?_, ?_⟩, Lib.hid (HB6.out.trans HBi.out)⟩
              · have := gd_kids (E0 := E0) (e := ⟨.mk k n t l, eg, eo, er, ef⟩) rfl HG.out.1 gl ol j (by rw [HNN.out]; exact Nat.le_refl _)
                rw [HEC.out, HRR.out]; exact this
              · rw [HKP.out]
                have h1 := HG.out.2.1
                rw [prE_snoc, prO_eq] at h1
                rw [← h1, HEE.out, HRR.out]
                simp [xr, dks]
              · intro a ha
                rcases List.mem_append.1 ha with ha | ha
                · exact HG.out.2.2 a ha
                · simp only [List.mem_cons, List.not_mem_nil, or_false] at ha
                  rw [ha, HEE.out]; exact HG4.out
end Go.Proofs.YtbjgoigdhijbgaaDoor
