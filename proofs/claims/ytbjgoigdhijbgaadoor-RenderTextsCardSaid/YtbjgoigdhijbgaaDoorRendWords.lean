/-
  All texts of a document, as the law asks them.
-/
import Derived.Test.YtbjgoigdhijbgaaDoorRendTold
set_option linter.all false
namespace Go.Proofs.YtbjgoigdhijbgaaDoor
open Go.RowKit Go.PlainAid

mutual
/-- No text has a blank. -/
def nbD : Dc → Bool
  | .mk _ _ t l => !t.data.toList.contains 32 && nbL l
def nbL : List Dc → Bool
  | [] => true
  | x :: t => nbD x && nbL t
end
theorem nbL_drop : ∀ {l : List Dc} {i : Nat} {x : Dc}, l[i]? = some x → nbL (l.drop i) = (nbD x && nbL (l.drop (i + 1)))
  | [], _, _, h => by simp at h
  | y :: t, 0, x, h => by
    simp only [List.getElem?_cons_zero, Option.some.injEq] at h
    subst h
    simp only [List.drop_zero, nbL, List.drop_succ_cons]
  | y :: t, i + 1, x, h => by
    simp only [List.getElem?_cons_succ] at h
    simp only [List.drop_succ_cons]
    exact nbL_drop h
theorem wdsL_take : ∀ {l : List Dc} {i : Nat} {x : Dc}, l[i]? = some x → wdsL (l.take (i + 1)) = wdsL (l.take i) ++ wds x
  | [], _, _, h => by simp at h
  | y :: t, 0, x, h => by
    simp only [List.getElem?_cons_zero, Option.some.injEq] at h
    subst h
    simp only [List.take_succ_cons, List.take_zero, wdsL]
    apply ByteArray.ext; simp
  | y :: t, i + 1, x, h => by
    simp only [List.getElem?_cons_succ] at h
    simp only [List.take_succ_cons, wdsL, wdsL_take h, ByteArray.append_assoc]
theorem wdsL_split : ∀ (l : List Dc) (r : Nat), wdsL l = wdsL (l.take r) ++ wdsL (l.drop r)
  | [], r => by cases r <;> (apply ByteArray.ext; simp [wdsL])
  | y :: u, 0 => by
    simp only [List.take_zero, List.drop_zero, wdsL]
    apply ByteArray.ext; simp
  | y :: u, r + 1 => by
    simp only [List.take_succ_cons, List.drop_succ_cons, wdsL]
    rw [wdsL_split u r, ByteArray.append_assoc]
mutual
theorem wds_le {b : Nat} : ∀ x : Dc, dtz b x → (wds x).size ≤ dcnt x * b
  | .mk k n t l, h => by
    simp only [dtz] at h
    have h1 := wdsL_le l h.2
    simp only [wds, dcnt, ByteArray.size_append, Nat.add_mul, Nat.one_mul]
    omega
theorem wdsL_le {b : Nat} : ∀ l : List Dc, dtzL b l → (wdsL l).size ≤ dcntL l * b
  | [], _ => by show (0 : Nat) ≤ _; exact Nat.zero_le _
  | x :: t, h => by
    simp only [dtzL] at h
    have h1 := wds_le x h.1
    have h2 := wdsL_le t h.2
    simp only [wdsL, dcntL, ByteArray.size_append, Nat.add_mul]
    omega
end
theorem has32 (t : ByteArray) : t.data.toList.contains 32 = true ↔ ∃ j, j < t.size ∧ bt t j = 32 := by
  rw [List.contains_iff_mem, List.mem_iff_getElem]
  constructor
  · rintro ⟨j, hj, e⟩
    have hj' : j < t.size := by simpa using hj
    refine ⟨j, hj', ?_⟩
    unfold bt
    rw [dif_pos hj']
    have : t[j]'hj' = 32 := by rw [← e]; simp [ByteArray.getElem_eq_getElem_data]
    rw [this]; rfl
  · rintro ⟨j, hj, e⟩
    refine ⟨j, by simpa using hj, ?_⟩
    unfold bt at e
    rw [dif_pos hj] at e
    have e2 : (t[j]'hj).toNat = 32 := by omega
    have : t[j]'hj = 32 := UInt8.toNat_inj.1 e2
    rw [← this]; simp [ByteArray.getElem_eq_getElem_data]
theorem has32_no {t : ByteArray} (h : ∀ j, j < t.size → bt t j ≠ 32) : t.data.toList.contains 32 = false := by
  cases e : t.data.toList.contains 32
  · rfl
  · obtain ⟨j, hj, h10⟩ := (has32 t).1 e
    exact absurd h10 (h j hj)
theorem ret_sb2 {a b : ByteArray} {c d : Bool} (h : a = b) (h' : c = d) : Ending.returned (.tuple #[.string a, .bool c]) = .returned (.tuple #[.string b, .bool d]) := by rw [h, h']
def wdA (x : Dc) : ByteArray := if nbD x = true then wds x else ⟨#[]⟩
set_option maxRecDepth 100000 in
set_option maxHeartbeats 8000000 in
theorem words_any : ∀ (m : Nat), m ≤ 500 → ∀ (x : Dc), dcnt x ≤ m → dtz 1048576 x → ∀ (c : List Value) (w : World), DcAt w c x →
    Calls Tryd.prog 16 #[.agg c.toArray] w fun e w' => e = .returned (.tuple #[.string (wdA x), .bool (nbD x)]) ∧ Below w.heap.size w w'
  | 0, _, n, hn, _, _, _, _ => by have := dcnt_pos n; omega
  | m + 1, hm, .mk k n t l, hn, hz, c, w, h => by
    obtain ⟨lv, cs, rfl, hl, hc⟩ := h.inv
    clear h
    simp only [dcnt] at hn
    have hz : t.size ≤ 1048576 ∧ dtzL 1048576 l := by simpa only [dtz] using hz
    have hl0 := hl
    obtain ⟨a, cap, rfl, -⟩ := hl0
    have HK := Lib.hid (kidsD hl hc)
    have HI : Hid (∀ x ∈ l, ∀ c, DcAt w c x → ∀ W, Below w.heap.size w W → Calls Tryd.prog 16 #[.agg c.toArray] W fun e w' => e = .returned (.tuple #[.string (wdA x), .bool (nbD x)]) ∧ Below W.heap.size W w') :=
      Lib.hid (fun x hx c hxc W hb => words_any m (by omega) x (by obtain ⟨i, hi⟩ := List.getElem?_of_mem hx; have := dcnt_at hi; omega) (dtz_at hz.2 hx) c W (hxc.bel hb))
    have hlen := len_dcntL l
    have HWD : Hid (∀ q x, l[q]? = some x → (t ++ wdsL (l.take q)).size + (wds x).size ≤ 9223372036854775807) := Lib.hid fun q x hx => by
      have h1 := wdsL_le l hz.2
      have h3 : wdsL l = wdsL (l.take (q + 1)) ++ wdsL (l.drop (q + 1)) := wdsL_split l (q + 1)
      rw [wdsL_take hx] at h3
      have h4 := congrArg ByteArray.size h3
      rw [ByteArray.size_append, ByteArray.size_append] at h4
      have h5 : dcntL l * 1048576 ≤ 500 * 1048576 := Nat.mul_le_mul_right _ (by omega)
      rw [ByteArray.size_append]
      have := hz.1
      omega
    obtain ⟨N, hN⟩ : ∃ N, N = l.length := ⟨_, rfl⟩
    rw [← hN] at hlen ⊢
    have HN := Lib.hid hN
    obtain ⟨Z, hZ⟩ : ∃ Z, Z = w.alloc (.cells #[.int .i64 k, .int .i64 n, .string t, .slice a N cap] 24) := ⟨_, rfl⟩
    have hbW : Below w.heap.size w Z := by rw [hZ]; exact below1 _ _
    have HB0 : Hid (Below Z.heap.size Z (w.alloc (.cells #[.int .i64 k, .int .i64 n, .string t, .slice a N cap] 24))) := Lib.hid (by rw [← hZ]; exact Below.refl _ _)
    have HC := Lib.hid (fun W (hb : Below Z.heap.size Z W) => dc_cells (by rw [hZ] at hb; exact hb))
    have UP := Lib.hid (fun W (h : Below Z.heap.size Z W) => hbW.trans (h.mono hbW.size))
    obtain ⟨d0, d1, d2, d3⟩ := HC.out _ HB0.out
    have hln : N ≤ 500 := by omega
    have gb := Lib.hid (get_bt t)
    obtain ⟨R, hR⟩ : ∃ R, R = wdA (.mk k n t l) := ⟨_, rfl⟩
    obtain ⟨B, hB⟩ : ∃ B, B = nbD (.mk k n t l) := ⟨_, rfl⟩
    rw [← hR, ← hB]
    have hB2 : B = (!t.data.toList.contains 32 && nbL l) := by rw [hB, nbD]
    have hR2 : R = if B = true then t ++ wdsL l else ⟨#[]⟩ := by rw [hR, hB]; rfl
    have HBB := Lib.hid hB2
    have HRR := Lib.hid hR2
    obtain ⟨T, hT⟩ : ∃ T, T = t.size := ⟨_, rfl⟩
    have hT9 : T ≤ 1048576 := by rw [hT]; exact hz.1
    have HT := Lib.hid hT
    clear hN hl hc hZ hbW hlen hn hm hz hR hB hB2 hR2 hT
    go_enter Tryd.func16, Tryd.ntmps16
    go_wp2_with fail
    go_loopg [5] T (fun gn i wr => ∃ (q : Nat), gn = T - q ∧ q ≤ T ∧ i = .int .i64 (q : Int) ∧ Hid (∀ j, j < q → bt t j ≠ 32) ∧ Hid (Below Z.heap.size Z wr))
    case atStart => exact ⟨0, rfl, Nat.zero_le _, rfl, Lib.hid (fun j hj => absurd hj (by omega)), HB0⟩
    case round =>
      obtain ⟨q, hgn, hq, rfl, HS, HB⟩ := hrel
      have HBw : Hid (Below w.heap.size w wr) := Lib.hid (UP.out _ HB.out)
      by_cases hlt : q < T
      · have qn : (q : Int) < (t.size : Int) := by rw [← HT.out]; omega
        have qs : q < t.size := by rw [← HT.out]; exact hlt
        have hb := gb.out q qs
        by_cases h10 : bt t q = 32
        · have HF : Hid (false = B) := Lib.hid (by rw [HBB.out, (has32 t).2 ⟨q, qs, h10⟩]; rfl)
          have HF2 : Hid ((⟨#[]⟩ : ByteArray) = R) := Lib.hid (by rw [HRR.out, ← HF.out]; rfl)
          rw [h10] at hb
          go_wp2_with fail
          go_ret2
          exact ⟨ret_sb2 HF2.out HF.out, HBw.out⟩
        · have HS2 : Hid (∀ j, j < q + 1 → bt t j ≠ 32) := Lib.hid (fun j hj => by
            by_cases e : j = q
            · rw [e]; exact h10
            · exact HS.out j (by omega))
          have h10' : ((((t[q]'qs).toNat : Nat) : Int) == 32) = false := beq_false_of_ne (by rw [hb]; exact h10)
          clear hb
          go_wp2_with fail
          go_roundg (T - (q + 1))
          case measure => omega
          case rel => exact ⟨q + 1, rfl, hlt, by go_num, HS2, HB⟩
      · obtain rfl : T = q := by omega
        have qn : ¬ (T : Int) < (t.size : Int) := by rw [← HT.out]; omega
        have HB1 : Hid (B = nbL l) := Lib.hid (by rw [HBB.out, has32_no (fun j hj => HS.out j (by rw [HT.out]; exact hj))]; rfl)
        obtain ⟨d0, d1, d2, d3⟩ := HC.out _ HB.out
        clear HS HBB gb
        go_wp2_with fail
        go_loopg [4, 6] N (fun gn s i wi => ∃ (q : Nat), gn = N - q ∧ q ≤ N ∧ i = .int .i64 (q : Int) ∧ s = .string (t ++ wdsL (l.take q)) ∧ Hid (B = nbL (l.drop q)) ∧ Hid (Below Z.heap.size Z wi))
        case atStart => exact ⟨0, rfl, Nat.zero_le _, rfl, by rw [List.take_zero, wdsL, ba_empty_r], Lib.hid HB1.out, HB⟩
        case round =>
          obtain ⟨q, hgn, hq, rfl, rfl, HS, HB⟩ := hrel
          obtain ⟨d0, d1, d2, d3⟩ := HC.out _ HB.out
          have HBw : Hid (Below w.heap.size w wr) := Lib.hid (UP.out _ HB.out)
          by_cases hlt : q < N
          · obtain ⟨x, hx⟩ : ∃ x, l[q]? = some x := ⟨_, List.getElem?_eq_getElem (by rw [← HN.out]; exact hlt)⟩
            obtain ⟨g, o, k', n', t', lv', rfl, hxc, hce⟩ := HK.out q x hx
            obtain ⟨e0, e1, e2, e3⟩ := hce wr HBw.out
            have HI1 := Lib.hid (HI.out x (List.mem_of_getElem? hx) _ hxc wr HBw.out)
            have HK2 : Hid (B = (nbD x && nbL (l.drop (q + 1)))) := Lib.hid (by rw [HS.out, nbL_drop hx])
            have qn : (q : Int) < (N : Int) := by omega
            obtain ⟨S, hS⟩ : ∃ S, S = t ++ wdsL (l.take q) := ⟨_, rfl⟩
            have hS2 : t ++ wdsL (l.take (q + 1)) = S ++ wds x := by rw [wdsL_take hx, hS, ByteArray.append_assoc]
            have hsz := HWD.out q x hx
            rw [← hS] at hsz ⊢
            have HS2 := Lib.hid hS2
            obtain ⟨y, hy⟩ : ∃ y, y = nbD x := ⟨_, rfl⟩
            have hwa : y = true → wdA x = wds x := fun h => by rw [wdA, ← hy, if_pos h]
            rw [← hy] at HI1 HK2
            obtain ⟨X, hX⟩ : ∃ X, X = wdA x := ⟨_, rfl⟩
            rw [← hX] at HI1 hwa
            have HWA := Lib.hid hwa
            clear hce hx hy hxc HS hS hX hwa hS2
            go_wp2_with fail
            refine HI1.out.mono ?_
            rintro e w2 ⟨rfl, hb2⟩
            have HB2 := Lib.hid (HB.out.trans (hb2.mono HB.out.size))
            clear hb2 HI1
            cases y
            · have HK3 : Hid (false = B) := Lib.hid (by rw [HK2.out, Bool.false_and])
              have HF2 : Hid ((⟨#[]⟩ : ByteArray) = R) := Lib.hid (by rw [HRR.out, ← HK3.out]; rfl)
              go_wp2_with fail
              go_ret2
              exact ⟨ret_sb2 HF2.out HK3.out, UP.out _ HB2.out⟩
            · have HK3 : Hid (B = nbL (l.drop (q + 1))) := Lib.hid (by rw [HK2.out, Bool.true_and])
              have hXe := HWA.out rfl
              rw [← hXe] at HS2 hsz
              have hcat : ∀ W : World, (Op.stringOp .add S X).run Tryd.prog W = .ok (.string (S ++ X)) W := fun W => by
                apply run_string_add_sum
                exact hsz
              clear hXe
              go_wp2_with fail
              go_roundg (N - (q + 1))
              case measure => omega
              case rel => exact ⟨q + 1, rfl, hlt, by go_num, by rw [HS2.out], HK3, HB2⟩
          · obtain rfl : N = q := by omega
            have HF : Hid (true = B) := Lib.hid (by have := HS.out; rw [List.drop_eq_nil_of_le (by rw [HN.out]; exact Nat.le_refl _)] at this; rw [this]; rfl)
            have HF2 : Hid (t ++ wdsL (l.take N) = R) := Lib.hid (by rw [HRR.out, ← HF.out, if_pos rfl, List.take_of_length_le (by rw [HN.out]; exact Nat.le_refl _)])
            go_wp2_with fail
            go_ret2
            exact ⟨ret_sb2 HF2.out HF.out, HBw.out⟩
end Go.Proofs.YtbjgoigdhijbgaaDoor
