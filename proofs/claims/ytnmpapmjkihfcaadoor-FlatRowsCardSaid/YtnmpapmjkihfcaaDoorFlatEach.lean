/-
  THE PROGRAM's way over the leaves of documents: flat.each, for any function that is called of each.
-/
import Derived.Test.YtnmpapmjkihfcaaDoorFlatMath
import Derived.Test.YtnmpapmjkihfcaaDoorDocProg
import Derived.Deep.LoopGhost
set_option linter.all false
namespace Go.Proofs.YtnmpapmjkihfcaaDoor
open Go.RowKit Go.PlainAid Go.Shelf

/-- A document's cells at a place. -/
def LfC (W : World) (x : Dc) (g o : Nat) : Prop := g < W.heap.size ∧ ∃ a cap, W.cell? ⟨g, o, none⟩ = some (.int .i64 (dkd x)) ∧ W.cell? ⟨g, o + 1, none⟩ = some (.int .i64 (dnn x)) ∧ W.cell? ⟨g, o + 2, none⟩ = some (.string (dtx x)) ∧ W.cell? ⟨g, o + 3, none⟩ = some (.slice a (dks x).length cap)
/-- What the function must do that is called of each leaf: J: what is so when these have come; Jx: when it has answered false. Sf: what it never turns. -/
structure DoC (K : FuncId) (b s : Nat) (Sf : World → Nat → Prop) (J Jx : List Dc → World → Prop) (Ls : List Dc) : Prop where
  en : ∀ args w, (callFunc K args).run Tryd.prog w = .ok (.enter K args) w
  loc : ∀ A B g, Sf A g → B.heap[g]? = A.heap[g]? → Sf B g
  ty : ∀ pre W g cs fr, J pre W → W.heap[g]? = some (.cells cs 22 fr) → Sf W g
  st : ∀ pre A B, J pre A → (∀ g, g < A.heap.size → ¬ Sf A g → B.heap[g]? = A.heap[g]?) → Below s A B → J pre B
  call : ∀ pre x rest W g o, pre ++ x :: rest = Ls → J pre W → Sf W g → LfC W x g o → Calls Tryd.prog K #[.pointer (some ⟨g, o, none⟩), .pointer (some ⟨b, 0, none⟩)] W fun e W' =>
    ∃ v, e = .returned (.bool v) ∧ (if v = true then J (pre ++ [x]) W' else Jx (pre ++ [x]) W') ∧ Tn (fun g => ¬ Sf W g) W W'
theorem tn_sf {Sf : World → Nat → Prop} (loc : ∀ A B g, Sf A g → B.heap[g]? = A.heap[g]? → Sf B g) {A B C : World} (h : Tn (fun g => ¬ Sf A g) A B) (k : Tn (fun g => ¬ Sf B g) B C) : Tn (fun g => ¬ Sf A g) A C :=
  ⟨k.os.trans h.os, k.tape.trans h.tape, k.output.trans h.output, Nat.le_trans h.size k.size, fun g hg hm => by
    have h1 := h.block g hg hm
    exact (k.block g (Nat.lt_of_lt_of_le hg h.size) (fun hk => hm (fun hs => hk (loc _ _ _ hs h1)))).trans h1⟩
/-- Blocks of one's own above a bound have turned alone. -/
theorem tn_hi {O : Nat → Prop} {A B C : World} (h : Tn O A B) (k : Below A.heap.size B C) : Tn O A C :=
  ⟨k.os.trans h.os, k.tape.trans h.tape, k.output.trans h.output, Nat.le_trans h.size k.size, fun g hg hm => (k.block g hg).trans (h.block g hg hm)⟩
theorem ownsRow_ty {W W' : World} {base : Nat} {e : TypeId} {size : Nat} {v : Value} {n : Nat} {xs : List Value} (h : W.ownsRow base e size v n xs) (hb : ∀ g cs fr, base ≤ g → W.heap[g]? = some (.cells cs e fr) → W'.heap[g]? = W.heap[g]?) : W'.ownsRow base e size v n xs := by
  obtain ⟨h1, h2 | ⟨g, cap, cur, rfl, h4, h5, h6⟩⟩ := h
  · exact ⟨h1, .inl h2⟩
  · exact ⟨h1, .inr ⟨g, cap, cur, rfl, h4, by rw [hb g _ _ h4 h5]; exact h5, h6⟩⟩
theorem Itr.keep2 {F : Nat} {W W' : World} {P : Nat → Prop} {b : Nat} {v : Value} {S : List (Value × List Dc)} (h : Itr F W P b v S) {Sf : World → Nat → Prop} (hm : Tn (fun g => ¬ Sf W g) W W') (hp : ∀ g, P g → Sf W g) (ht : ∀ g cs fr, W.heap[g]? = some (.cells cs 22 fr) → Sf W g) : Itr F W' P b v S :=
  ⟨ownsRow_ty h.row (fun g cs fr _ hg => hm.block g (lt_of_block hg) (fun ho => ho (ht g cs fr hg))), fun f hf => (h.ok f hf).keep (tn_keeps hm (fun g hg ho => ho (hp g hg))), h.few, h.pp⟩
/-- The open lists' own row is none of what the function owns. -/
theorem Itr.rowty {F : Nat} {W : World} {P : Nat → Prop} {b : Nat} {g n c : Nat} {S : List (Value × List Dc)} (h : Itr F W P b (.slice (some ⟨g, 0, none⟩) n c) S) (hn : 0 < S.length) : ∃ cs fr, W.heap[g]? = some (.cells cs 22 fr) := by
  obtain ⟨-, ⟨h0, -⟩ | ⟨g', cap', cur, hv, -, hg, -⟩⟩ := h.row
  · simp at h0
  · simp only [Value.slice.injEq, Option.some.injEq, Addr.mk.injEq, and_true] at hv
    obtain ⟨rfl, -⟩ := hv
    exact ⟨_, _, hg⟩
theorem DIn.lf {W : World} {P : Nat → Prop} {g o : Nat} {x : Dc} (h : DIn W P g o x) : LfC W x g o := by
  cases x with
  | mk k n t l =>
    obtain ⟨a, cap, h0, h1, h2, h3, -⟩ := h.open
    exact ⟨h.2.1, a, cap, h0, h1, h2, h3⟩
set_option maxRecDepth 100000 in
set_option maxHeartbeats 4000000 in
theorem each_any (K : FuncId) (b s : Nat) (Sf : World → Nat → Prop) (J Jx : List Dc → World → Prop) (Ls : List Dc) (D : DoC K b s Sf J Jx Ls) (l : List Dc) (hl : dcntL l ≤ 100000) (hLs : lvsL l = Ls) (a : Option Addr) (N cap : Nat) (w : World) (hs : s = w.heap.size) (hJ : J [] w) (P : Nat → Prop)
    (hd : DrIn w P (.slice a N cap) l) (hP : ∀ g, P g → g < w.heap.size ∧ Sf w g) :
    Calls Tryd.prog 36 #[.slice a N cap, .func (.func K) #[] #[.pointer (some ⟨b, 0, none⟩)]] w fun e W' => e = .returned (.tuple #[]) ∧
      (J Ls W' ∨ ∃ pre rest, pre ++ rest = Ls ∧ Jx pre W') ∧ Tn (fun g => ¬ Sf w g) w W' := by
  obtain ⟨W1, hW1⟩ : ∃ W1, W1 = w.alloc (.cells #[.slice a N cap] 22) := ⟨_, rfl⟩
  have tW1 : Tn (fun g => ¬ Sf w g) w W1 := by rw [hW1]; exact (Tn.refl _ _).alloc _
  have hJ1 : J [] W1 := D.st _ _ _ hJ (fun g hg _ => tn_block_alloc hW1 hg) (by rw [hW1, hs]; exact below1 _ _)
  have b1 : W1.heap[s]? = some (.cells #[.slice a N cap] 22 (0, 0)) := by rw [hW1, hs]; exact new_at9
  obtain ⟨F, hF⟩ : ∃ F, F = dcntL l + 1 := ⟨_, rfl⟩
  have hI1 : Itr F W1 P s (.slice (some ⟨s, 0, none⟩) 1 1) [(.slice a N cap, l)] := by
    refine ⟨⟨rfl, .inr ⟨s, 1, _, rfl, Nat.le_refl _, b1, Nat.le_refl _, by decide, rfl, rfl⟩⟩, ?_, ?_, fun g hg => by rw [hs]; exact (hP g hg).1⟩
    · intro f hf
      simp only [List.mem_cons, List.not_mem_nil, or_false] at hf
      subst hf
      exact hd.keep (tn_keeps tW1 (fun g hg ho => ho (hP g hg).2))
    · simp only [lsS, List.map_cons, List.map_nil, rmS, ordL_len, List.append_nil, List.length_cons, List.length_nil]
      omega
  have HPO : Hid (∀ W, Tn (fun g => ¬ Sf w g) w W → ∀ g, P g → Sf W g) := Lib.hid fun W h g hg => D.loc _ _ _ (hP g hg).2 (h.block g (hP g hg).1 (fun ho => ho (hP g hg).2))
  have HEN := Lib.hid D.en
  have HST := Lib.hid D.st
  have HLOC := Lib.hid D.loc
  have HTY := Lib.hid D.ty
  have HCL := Lib.hid D.call
  have HI1 := Lib.hid hI1
  have HJ1 := Lib.hid hJ1
  have HT1 : Hid (Tn (fun g => ¬ Sf w g) w W1) := Lib.hid tW1
  have HO1 : Hid (([] : List Dc) ++ lvS (lsS [(.slice a N cap, l)]) = Ls) := Lib.hid (by simp [lsS, lvS, hLs])
  have HS := Lib.hid hs
  have HFF := Lib.hid hF
  have hF6 : F ≤ 100001 := by omega
  have hrow := Tryd.underlying80
  obtain ⟨i0, hi, hz0, hz1, hz2⟩ := info_parts infoDs
  have HG0 : Hid (2 * (rmS (lsS [(.slice a N cap, l)])).length + 1 = 2 * dcntL l + 1) := Lib.hid (by simp only [lsS, List.map_cons, List.map_nil, rmS, ordL_len, List.append_nil])
  have en := D.en
  clear hI1 hJ1 tW1 hd hP hJ b1 hLs D hl
  go_enter Tryd.func36, Tryd.ntmps36
  go_wp2_with fail
  go_loopg [4] (2 * dcntL l + 1) (fun gn v wr => ∃ (S : List (Value × List Dc)) (pre : List Dc), gn = 2 * (rmS (lsS S)).length + S.length ∧ Hid (Itr F wr P s v S) ∧ Hid (J pre wr) ∧ Hid (Tn (fun g => ¬ Sf w g) w wr) ∧ Hid (pre ++ lvS (lsS S) = Ls))
  case atStart =>
    obtain rfl := hs
    obtain rfl := hW1
    exact ⟨_, [], HG0.out.symm, HI1, HJ1, HT1, HO1⟩
  case round =>
    clear hs hW1 hF HI1 HJ1 HT1 HO1 HG0
    obtain ⟨S, pre, hgn, HI, HJ0, HT, HO⟩ := hrel
    have HG := Lib.hid hgn
    clear hgn
    cases S with
    | nil =>
      obtain ⟨a, c, rfl, -, -⟩ := HI.out.slice
      go_wp2_with fail
      go_end0
      exact ⟨rfl, .inl (by have := HO.out; simp only [lsS, List.map_nil, lvS, List.append_nil] at this; rw [← this]; exact HJ0.out), HT.out⟩
    | cons f r =>
      obtain ⟨g, cap, rfl, hbg, hgl, ct, hcap, hcm, hlr, hfz⟩ := HI.out.top
      have hro := HI.out.rowty (by simp)
      have HNO : Hid (Sf wr g) := Lib.hid (by obtain ⟨cs, fr, h⟩ := hro; exact HTY.out _ _ _ _ _ HJ0.out h)
      obtain ⟨v, q⟩ := f
      have hok := HI.out.ok (v, q) (by simp)
      simp only at ct hok
      obtain ⟨m, hmm⟩ : ∃ m, m = r.length := ⟨_, rfl⟩
      rw [← hmm] at ct hcap hlr hfz HI ⊢
      have HM := Lib.hid hmm
      clear hmm hro
      cases q with
      | nil =>
        obtain ⟨cs, ⟨a', c', rfl, -, -, -⟩, -⟩ := hok
        go_wp2_with fail
        have hg2 := HG.out
        simp only [lsS, List.map_cons, rmS_nil, List.length_cons] at hg2
        have ho2 := HO.out
        simp only [lsS, List.map_cons, lvS_nil] at ho2
        go_roundg (2 * (rmS (lsS r)).length + m)
        case measure => rw [hg2, HM.out]; simp only [lsS]; omega
        case rel =>
          refine ⟨r, pre, by rw [HM.out], ?_, HJ0, HT, Lib.hid ho2⟩
          have h1 := HI.out
          rw [HM.out] at h1 ⊢
          exact Lib.hid h1.pop
      | cons x q =>
        have hcs : ∃ a' c', v = .slice a' (q.length + 1) c' := by
          obtain ⟨cs, ⟨a', c', rfl, -, -, -⟩, -⟩ := hok
          exact ⟨a', c', rfl⟩
        obtain ⟨a', c', rfl⟩ := hcs
        obtain ⟨gx, ox, rfl, -, hc1, hc2, hdx, hrest⟩ := hok.first
        have hgx := hdx.1
        have hgg : gx < s := HI.out.pp gx hgx
        have HGX := Lib.hid hgx
        have HDX := Lib.hid hdx
        have HRS := Lib.hid hrest
        have hql : q.length + 1 ≤ F := by
          have h1 := HI.out.few
          have h2 := len_dcntL (x :: q)
          simp only [lsS, List.map_cons, rmS, List.length_cons, List.length_append, ordL_len] at h1 h2
          omega
        clear hdx hrest hok
        obtain ⟨kx, nx, tx, lx⟩ := x
        obtain ⟨ax, capx, y0, y1, y2, y3, hrx⟩ := HDX.out.open
        have HRX := Lib.hid hrx
        clear hrx
        by_cases hc : c' = 1
        · obtain rfl : q = [] := List.length_eq_zero_iff.1 (by omega)
          subst hc
          have HDR : Hid (DrIn wr P (.slice (some ⟨gx, ox, none⟩) 0 0) []) := Lib.hid (⟨fun _ => [], ⟨_, _, rfl, Nat.le_refl _, by decide, fun h => absurd h (by simp)⟩, fun i x hx => by simp at hx⟩)
          obtain ⟨W4, hW4⟩ : ∃ W4, W4 = wr.setCell ⟨g, m, none⟩ (.slice (some ⟨gx, ox, none⟩) 0 0) := ⟨_, rfl⟩
          have hne : gx ≠ g := by omega
          have HB4 : Hid (Below s wr W4) := Lib.hid (by rw [hW4]; exact (Below.refl s wr).setCell (p := ⟨g, m, none⟩) hbg _)
          have HJ4 : Hid (J pre W4) := Lib.hid (HST.out _ _ _ HJ0.out (fun g' _ hg' => by rw [hW4]; exact Below.heap_setCell _ _ _ _ (fun e => hg' (by have e : g' = g := e; rw [e]; exact HNO.out))) HB4.out)
          have HI4 : Hid (Itr F W4 P s (.slice (some ⟨g, 0, none⟩) (m + 1) cap) ((.slice (some ⟨gx, ox, none⟩) 0 0, []) :: r)) := Lib.hid (by
            have h1 := HI.out
            rw [hW4]
            rw [HM.out] at h1 ⊢
            exact h1.seen HDR.out)
          have HT4 : Hid (Tn (fun g => ¬ Sf w g) w W4) := Lib.hid (tn_hi HT.out (by rw [← HS.out]; exact HB4.out))
          have fx : ∀ j, W4.cell? ⟨gx, j, none⟩ = wr.cell? ⟨gx, j, none⟩ := fun j => by rw [hW4]; exact cell_set_ne hne
          have z0 : (wr.setCell ⟨g, m, none⟩ (.slice (some ⟨gx, ox, none⟩) 0 0)).cell? ⟨gx, ox, none⟩ = some (.int .i64 kx) := by rw [← hW4, fx]; exact y0
          have z3 : (wr.setCell ⟨g, m, none⟩ (.slice (some ⟨gx, ox, none⟩) 0 0)).cell? ⟨gx, ox + 3, none⟩ = some (.slice ax lx.length capx) := by rw [← hW4, fx]; exact y3
          have HLF : Hid (LfC W4 (.mk kx nx tx lx) gx ox) := Lib.hid ⟨by have := HB4.out.size; omega, ax, capx, by rw [fx]; exact y0, by rw [fx]; exact y1, by rw [fx]; exact y2, by rw [fx]; exact y3⟩
          have HW4 := Lib.hid hW4
          have HOR : Hid (pre ++ lvS ((Dc.mk kx nx tx lx :: []) :: lsS r) = Ls) := Lib.hid HO.out
          have hgk : gk = 2 * (rmS ((Dc.mk kx nx tx lx :: []) :: lsS r)).length + (m + 1) := by rw [HG.out, HM.out]; rfl
          have HGK := Lib.hid hgk
          clear hgk fx hne
          cases hlf : lfk kx
          · have HL := Lib.hid hlf
            have hlf' := hlf
            unfold lfk at hlf'
            simp only [Bool.or_eq_false_iff] at hlf'
            obtain ⟨⟨⟨l1, l2⟩, l3⟩, l4⟩ := hlf'
            have hW4r := HI4.out.row
            simp only [List.length_cons, ← HM.out] at hW4r
            have hsz : s ≤ W4.heap.size := by have := HB4.out.size; omega
            clear hlf HLF
            go_wp2_with (at_builtin; go_must (refine wpList_append_own_at _ rfl _ _ _ rfl s 22 i0 _ 1 24 hrow hi hz0 hz1 hz2 rfl (by decide) _ _ _ rfl (by rw [← HW4.out]; exact hW4r.alloc _) ⟨wr.heap.size, 0, none⟩ 1 1 [.slice ax lx.length capx] rfl rfl (by have := cell_one_new (wr.setCell ⟨g, m, none⟩ (.slice (some ⟨gx, ox, none⟩) 0 0)) (.slice ax lx.length capx) 22; simpa using this) (by intro u hu; simp only [List.mem_cons, List.not_mem_nil, or_false] at hu; subst hu; rfl) (by unfold maxLen; omega) (by omega) (by have := HB4.out.size; simp; omega) ?_); intro v' w' hown hgrow _ hwh; obtain ⟨gv, cv, rfl, hgv⟩ := row_some hown)
            have hgrow' : (W4.alloc (.cells #[.slice ax lx.length capx] 22)).grownBy w' (some g) := by rw [HW4.out]; exact hgrow
            obtain ⟨hW5, hB5⟩ := HI4.out.push (.slice ax lx.length capx) lx (HRX.out.keep ⟨HB4.out.size, fun k hk hl => HB4.out.block k (HI4.out.pp k hk)⟩) (by simpa only [List.length_cons, HM.out] using hown) hgrow' (by
              have := HI4.out.few
              have h2 := HI.out.few
              simp only [lsS, List.map_cons, rmS_cons, List.length_cons, List.length_map, dks] at this h2 ⊢
              omega) hsz
            have hro4 := HI4.out.rowty (by simp)
            have hJ6 := HST.out _ W4 w' HJ4.out (fun k hk1 hk => by
              rw [hgrow'.block k (by simp; omega) (fun e => hk (by cases e; obtain ⟨cs, fr, h⟩ := hro4; exact HTY.out _ _ _ _ _ HJ4.out h)), old_at9 hk1]) hB5
            have hT6 : Tn (fun g => ¬ Sf w g) w w' := tn_hi HT4.out (by rw [← HS.out]; exact hB5)
            have ho6 := HOR.out
            rw [lvS_in (by exact HL.out)] at ho6
            have hgk := HGK.out
            simp only [rmS_cons, List.length_cons, dks] at hgk ho6
            clear hown hgrow hgrow' hwh hgv hW4r l1 l2 l3 l4 z0 z3 y0 y1 y2 y3
            go_roundg (2 * (rmS (lx :: [] :: lsS r)).length + (m + 2))
            case measure => rw [hgk]; omega
            case rel =>
              refine ⟨(.slice ax lx.length capx, lx) :: (.slice (some ⟨gx, ox, none⟩) 0 0, []) :: r, pre, ?_, ?_, Lib.hid hJ6, Lib.hid hT6, Lib.hid ho6⟩
              · simp only [lsS, List.map_cons, List.length_cons, HM.out]
              · rw [← HM.out] at hW5; exact Lib.hid hW5
          · have HL := Lib.hid hlf
            have hlf' : kx = 1 ∨ kx = 2 ∨ kx = 3 ∨ kx = 4 := by
              unfold lfk at hlf; simp only [Bool.or_eq_true, beq_iff_eq] at hlf; omega
            have hor := HOR.out
            rw [lvS_leaf (by exact HL.out)] at hor
            have HR2 := Lib.hid hor
            have HCD := Lib.hid (HCL.out pre (.mk kx nx tx lx) _ W4 gx ox hor HJ4.out (HPO.out W4 HT4.out gx HGX.out) HLF.out)
            clear hor HLF hlf y0 y1 y2 y3 z3 HDX HRS HRX
            rcases hlf' with h | h | h | h
            all_goals
              subst h
              go_wp2_with fail
              rw [← HW4.out]
              refine HCD.out.mono ?_
              rintro e W5 ⟨vb, rfl, hjv, ht5⟩
              have HT5 : Hid (Tn (fun g => ¬ Sf w g) w W5) := Lib.hid (tn_sf HLOC.out HT4.out ht5)
              have HI5 := Lib.hid (HI4.out.keep2 ht5 (HPO.out W4 HT4.out) (fun g cs fr => HTY.out _ _ _ _ _ HJ4.out))
              clear ht5
              cases vb
              · have HJ5 := Lib.hid (show Jx _ W5 from hjv)
                clear hjv
                go_wp2_with fail
                refine bodyPost_ret (results_none rfl _ _ _) rfl ?_
                exact ⟨rfl, .inr ⟨_, _, by rw [List.append_assoc]; exact HR2.out, HJ5.out⟩, HT5.out⟩
              · have HJ5 := Lib.hid (show J _ W5 from hjv)
                clear hjv
                go_wp2_with fail
                have hgk := HGK.out
                simp only [rmS_cons, List.length_cons, dks] at hgk
                go_roundg (2 * (rmS ([] :: lsS r)).length + (m + 1))
                case measure => rw [hgk]; simp only [rmS, List.length_append]; omega
                case rel =>
                  refine ⟨(.slice (some ⟨gx, ox, none⟩) 0 0, []) :: r, _, ?_, ?_, HJ5, HT5, Lib.hid (by rw [List.append_assoc]; exact HR2.out)⟩
                  · simp only [lsS, List.map_cons, List.length_cons, HM.out]
                  · have h1 := HI5.out
                    rw [HM.out] at h1 ⊢
                    exact Lib.hid h1
        · have hc3 : ¬ (c' : Int) = 1 := by omega
          have HDR : Hid (DrIn wr P (.slice (some ⟨gx, ox + 4, none⟩) q.length (c' - 1)) q) := HRS
          obtain ⟨W4, hW4⟩ : ∃ W4, W4 = wr.setCell ⟨g, m, none⟩ (.slice (some ⟨gx, ox + 4, none⟩) q.length (c' - 1)) := ⟨_, rfl⟩
          have hne : gx ≠ g := by omega
          have HB4 : Hid (Below s wr W4) := Lib.hid (by rw [hW4]; exact (Below.refl s wr).setCell (p := ⟨g, m, none⟩) hbg _)
          have HJ4 : Hid (J pre W4) := Lib.hid (HST.out _ _ _ HJ0.out (fun g' _ hg' => by rw [hW4]; exact Below.heap_setCell _ _ _ _ (fun e => hg' (by have e : g' = g := e; rw [e]; exact HNO.out))) HB4.out)
          have HI4 : Hid (Itr F W4 P s (.slice (some ⟨g, 0, none⟩) (m + 1) cap) ((.slice (some ⟨gx, ox + 4, none⟩) q.length (c' - 1), q) :: r)) := Lib.hid (by
            have h1 := HI.out
            rw [hW4]
            rw [HM.out] at h1 ⊢
            exact h1.seen HDR.out)
          have HT4 : Hid (Tn (fun g => ¬ Sf w g) w W4) := Lib.hid (tn_hi HT.out (by rw [← HS.out]; exact HB4.out))
          have fx : ∀ j, W4.cell? ⟨gx, j, none⟩ = wr.cell? ⟨gx, j, none⟩ := fun j => by rw [hW4]; exact cell_set_ne hne
          have z0 : (wr.setCell ⟨g, m, none⟩ (.slice (some ⟨gx, ox + 4, none⟩) q.length (c' - 1))).cell? ⟨gx, ox, none⟩ = some (.int .i64 kx) := by rw [← hW4, fx]; exact y0
          have z3 : (wr.setCell ⟨g, m, none⟩ (.slice (some ⟨gx, ox + 4, none⟩) q.length (c' - 1))).cell? ⟨gx, ox + 3, none⟩ = some (.slice ax lx.length capx) := by rw [← hW4, fx]; exact y3
          have HLF : Hid (LfC W4 (.mk kx nx tx lx) gx ox) := Lib.hid ⟨by have := HB4.out.size; omega, ax, capx, by rw [fx]; exact y0, by rw [fx]; exact y1, by rw [fx]; exact y2, by rw [fx]; exact y3⟩
          have HW4 := Lib.hid hW4
          have HOR : Hid (pre ++ lvS ((Dc.mk kx nx tx lx :: q) :: lsS r) = Ls) := Lib.hid HO.out
          have hgk : gk = 2 * (rmS ((Dc.mk kx nx tx lx :: q) :: lsS r)).length + (m + 1) := by rw [HG.out, HM.out]; rfl
          have HGK := Lib.hid hgk
          clear hgk fx hne
          cases hlf : lfk kx
          · have HL := Lib.hid hlf
            have hlf' := hlf
            unfold lfk at hlf'
            simp only [Bool.or_eq_false_iff] at hlf'
            obtain ⟨⟨⟨l1, l2⟩, l3⟩, l4⟩ := hlf'
            have hW4r := HI4.out.row
            simp only [List.length_cons, ← HM.out] at hW4r
            have hsz : s ≤ W4.heap.size := by have := HB4.out.size; omega
            clear hlf HLF
            go_wp2_with (at_builtin; go_must (refine wpList_append_own_at _ rfl _ _ _ rfl s 22 i0 _ 1 24 hrow hi hz0 hz1 hz2 rfl (by decide) _ _ _ rfl (by rw [← HW4.out]; exact hW4r.alloc _) ⟨wr.heap.size, 0, none⟩ 1 1 [.slice ax lx.length capx] rfl rfl (by have := cell_one_new (wr.setCell ⟨g, m, none⟩ (.slice (some ⟨gx, ox + 4, none⟩) q.length (c' - 1))) (.slice ax lx.length capx) 22; simpa using this) (by intro u hu; simp only [List.mem_cons, List.not_mem_nil, or_false] at hu; subst hu; rfl) (by unfold maxLen; omega) (by omega) (by have := HB4.out.size; simp; omega) ?_); intro v' w' hown hgrow _ hwh; obtain ⟨gv, cv, rfl, hgv⟩ := row_some hown)
            have hgrow' : (W4.alloc (.cells #[.slice ax lx.length capx] 22)).grownBy w' (some g) := by rw [HW4.out]; exact hgrow
            obtain ⟨hW5, hB5⟩ := HI4.out.push (.slice ax lx.length capx) lx (HRX.out.keep ⟨HB4.out.size, fun k hk hl => HB4.out.block k (HI4.out.pp k hk)⟩) (by simpa only [List.length_cons, HM.out] using hown) hgrow' (by
              have := HI4.out.few
              have h2 := HI.out.few
              simp only [lsS, List.map_cons, rmS_cons, List.length_cons, List.length_map, dks] at this h2 ⊢
              omega) hsz
            have hro4 := HI4.out.rowty (by simp)
            have hJ6 := HST.out _ W4 w' HJ4.out (fun k hk1 hk => by
              rw [hgrow'.block k (by simp; omega) (fun e => hk (by cases e; obtain ⟨cs, fr, h⟩ := hro4; exact HTY.out _ _ _ _ _ HJ4.out h)), old_at9 hk1]) hB5
            have hT6 : Tn (fun g => ¬ Sf w g) w w' := tn_hi HT4.out (by rw [← HS.out]; exact hB5)
            have ho6 := HOR.out
            rw [lvS_in (by exact HL.out)] at ho6
            have hgk := HGK.out
            simp only [rmS_cons, List.length_cons, dks] at hgk ho6
            clear hown hgrow hgrow' hwh hgv hW4r l1 l2 l3 l4 z0 z3 y0 y1 y2 y3
            go_roundg (2 * (rmS (lx :: q :: lsS r)).length + (m + 2))
            case measure => rw [hgk]; omega
            case rel =>
              refine ⟨(.slice ax lx.length capx, lx) :: (.slice (some ⟨gx, ox + 4, none⟩) q.length (c' - 1), q) :: r, pre, ?_, ?_, Lib.hid hJ6, Lib.hid hT6, Lib.hid ho6⟩
              · simp only [lsS, List.map_cons, List.length_cons, HM.out]
              · rw [← HM.out] at hW5; exact Lib.hid hW5
          · have HL := Lib.hid hlf
            have hlf' : kx = 1 ∨ kx = 2 ∨ kx = 3 ∨ kx = 4 := by
              unfold lfk at hlf; simp only [Bool.or_eq_true, beq_iff_eq] at hlf; omega
            have hor := HOR.out
            rw [lvS_leaf (by exact HL.out)] at hor
            have HR2 := Lib.hid hor
            have HCD := Lib.hid (HCL.out pre (.mk kx nx tx lx) _ W4 gx ox hor HJ4.out (HPO.out W4 HT4.out gx HGX.out) HLF.out)
            clear hor HLF hlf y0 y1 y2 y3 z3 HDX HRS HRX
            rcases hlf' with h | h | h | h
            all_goals
              subst h
              go_wp2_with fail
              rw [← HW4.out]
              refine HCD.out.mono ?_
              rintro e W5 ⟨vb, rfl, hjv, ht5⟩
              have HT5 : Hid (Tn (fun g => ¬ Sf w g) w W5) := Lib.hid (tn_sf HLOC.out HT4.out ht5)
              have HI5 := Lib.hid (HI4.out.keep2 ht5 (HPO.out W4 HT4.out) (fun g cs fr => HTY.out _ _ _ _ _ HJ4.out))
              clear ht5
              cases vb
              · have HJ5 := Lib.hid (show Jx _ W5 from hjv)
                clear hjv
                go_wp2_with fail
                refine bodyPost_ret (results_none rfl _ _ _) rfl ?_
                exact ⟨rfl, .inr ⟨_, _, by rw [List.append_assoc]; exact HR2.out, HJ5.out⟩, HT5.out⟩
              · have HJ5 := Lib.hid (show J _ W5 from hjv)
                clear hjv
                go_wp2_with fail
                have hgk := HGK.out
                simp only [rmS_cons, List.length_cons, dks] at hgk
                go_roundg (2 * (rmS (q :: lsS r)).length + (m + 1))
                case measure => rw [hgk]; simp only [rmS, List.length_append]; omega
                case rel =>
                  refine ⟨(.slice (some ⟨gx, ox + 4, none⟩) q.length (c' - 1), q) :: r, _, ?_, ?_, HJ5, HT5, Lib.hid (by rw [List.append_assoc]; exact HR2.out)⟩
                  · simp only [lsS, List.map_cons, List.length_cons, HM.out]
                  · have h1 := HI5.out
                    rw [HM.out] at h1 ⊢
                    exact Lib.hid h1
end Go.Proofs.YtnmpapmjkihfcaaDoor
