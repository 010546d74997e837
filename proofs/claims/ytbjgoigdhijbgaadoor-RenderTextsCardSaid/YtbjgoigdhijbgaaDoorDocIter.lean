/-
  THE PROGRAM's way over a document's parts: what the iterator promises.
-/
import Derived.Test.YtbjgoigdhijbgaaDoorDocItMem
import Derived.Test.YtbjgoigdhijbgaaDoorAid
import Derived.Test.YtbjgoigdhijbgaaDoorProg
import Derived.RangeFuncMany
import Derived.Shelf.Abstract
import Derived.Shelf.RegionOpen
import Derived.WalkKit
import Derived.OwnWalkIn
import Derived.TacticsInMore
import Derived.LoopNIn
import Derived.LoopIn
import Derived.Sort.LoopGhostIn
import Derived.Maps.OwnIn
set_option linter.all false
namespace Go.Proofs.YtbjgoigdhijbgaaDoor
open Go.RowKit Go.PlainAid Go.Shelf
attribute [local go_sem] Oper.semAt_some

/-- A part that is handed over: what it is, where its cells lie, how deep it stands. -/
structure Vs where
  x : Dc
  g : Nat
  o : Nat
  p : Nat
def encV (v : Vs) : Array Value := #[.pointer (some ⟨v.g, v.o, none⟩), .int .i64 (v.p : Int)]
def prV (v : Vs) : Dc × Nat := (v.x, v.p)
/-- Its cells, in a block that the body does not turn. -/
def DV (M : Nat → Prop) (F : Nat) (W : World) (v : Vs) : Prop := v.p ≤ F ∧ (dks v.x).length ≤ F ∧ ¬ M v.g ∧ v.g < W.heap.size ∧ ∃ a cap, W.cell? ⟨v.g, v.o, none⟩ = some (.int .i64 (dkd v.x)) ∧ W.cell? ⟨v.g, v.o + 1, none⟩ = some (.int .i64 (dnn v.x)) ∧ W.cell? ⟨v.g, v.o + 2, none⟩ = some (.string (dtx v.x)) ∧ W.cell? ⟨v.g, v.o + 3, none⟩ = some (.slice a (dks v.x).length cap)
theorem DIn.dv {W : World} {P M : Nat → Prop} {g o : Nat} {x : Dc} (h : DIn W P g o x) (hp : ∀ g, P g → ¬ M g) {F p : Nat} (hF : p ≤ F) (hK : (dks x).length ≤ F) : DV M F W ⟨x, g, o, p⟩ := by
  cases x with
  | mk k n t l =>
    obtain ⟨a, cap, h0, h1, h2, h3, -⟩ := h.open
    exact ⟨hF, hK, hp _ h.1, h.2.1, a, cap, h0, h1, h2, h3⟩
theorem infoDs : (Tryd.prog.info? 22).map (fun i => (i.zero, i.size, i.bytes)) = some (some (.slice none 0 0), 1, 24) := by kernel_rfl
theorem cell_tn {M : Nat → Prop} {W W' : World} (h : Tn M W W') {g j : Nat} (hm : ¬ M g) (hg : g < W.heap.size) : W'.cell? ⟨g, j, none⟩ = W.cell? ⟨g, j, none⟩ := by
  unfold World.cell?
  simp only
  rw [h.block g hg hm]
set_option maxRecDepth 100000 in
set_option maxHeartbeats 4000000 in
theorem parts1_its (M : Nat → Prop) (w : World) (B : Nat) (hM : ∀ k, M k → k < w.heap.size) (k n : Int) (t : ByteArray) (lv : Value) (d : Dc) (hd : dcnt d ≤ 1000000)
    (c0 : w.cell? ⟨B, 0, none⟩ = some (.int .i64 k)) (c1 : w.cell? ⟨B, 1, none⟩ = some (.int .i64 n)) (c2 : w.cell? ⟨B, 2, none⟩ = some (.string t)) (c3 : w.cell? ⟨B, 3, none⟩ = some lv)
    (hB : B < w.heap.size) (hin : DcIn w (fun g => g < w.heap.size ∧ ¬ M g) [.int .i64 k, .int .i64 n, .string t, lv] d) :
    ItS Tryd.prog 56 #[.pointer (some ⟨B, 0, none⟩)] encV M (DV M (dcnt d + 1)) (fun xs => xs.map prV = ord 1 d) (dcnt d) w := by
  intro l J Jx W hbW hl1 hl2 hJ hJx hY h0
  have e0 := (hbW.cell (p := ⟨B, 0, none⟩) hB).trans c0
  have e1 := (hbW.cell (p := ⟨B, 1, none⟩) hB).trans c1
  have e2 := (hbW.cell (p := ⟨B, 2, none⟩) hB).trans c2
  have e3 := (hbW.cell (p := ⟨B, 3, none⟩) hB).trans c3
  obtain ⟨s, hs⟩ : ∃ s, s = W.heap.size := ⟨_, rfl⟩
  obtain ⟨P, hP⟩ : ∃ P : Nat → Prop, P = fun g => (g < w.heap.size ∧ ¬ M g) ∨ g = s := ⟨_, rfl⟩
  obtain ⟨Q, hQ⟩ : ∃ Q : Nat → Prop, Q = fun g => M g ∨ g = l := ⟨_, rfl⟩
  have hws := hbW.size
  have hPs : ∀ g, P g → g < s + 1 := fun g hg => by rw [hP] at hg; rcases hg with h | h <;> omega
  have hPQ : ∀ g, P g → ¬ Q g := fun g hg => by
    rw [hP] at hg; rw [hQ]
    rintro (h | h)
    · rcases hg with ⟨h1, h2⟩ | h1
      · exact h2 h
      · have := hM g h; omega
    · rcases hg with ⟨h1, h2⟩ | h1 <;> omega
  have hoQ : ∀ g, s + 1 ≤ g → ¬ Q g := fun g hg => by
    rw [hQ]
    rintro (h | h)
    · have := hM g h; omega
    · omega
  have hPM : ∀ g, P g → ¬ M g := fun g hg h => hPQ g hg (by rw [hQ]; exact .inl h)
  obtain ⟨W2, hW2⟩ : ∃ W2, W2 = (W.alloc (.cells #[.int .i64 k, .int .i64 n, .string t, lv] 24)).alloc (.cells #[.slice (some ⟨W.heap.size, 0, none⟩) 1 1] 22) := ⟨_, rfl⟩
  have tW2 : Tn Q W W2 := by rw [hW2]; exact ((Tn.refl _ _).alloc _).alloc _
  have sW2 : W2.heap.size = s + 2 := by rw [hW2, hs]; simp
  have b2 : W2.heap[s]? = some (.cells #[.int .i64 k, .int .i64 n, .string t, lv] 24 (0, 0)) := by
    rw [hW2, hs]
    show ((W.heap.push _).push _)[W.heap.size]? = _
    rw [Array.getElem?_push, if_neg (by simp), Array.getElem?_push, if_pos rfl]
  have b3 : W2.heap[s + 1]? = some (.cells #[.slice (some ⟨s, 0, none⟩) 1 1] 22 (0, 0)) := by
    rw [hW2, hs]
    show ((W.heap.push _).push _)[W.heap.size + 1]? = _
    rw [Array.getElem?_push, if_pos (by simp)]
  have hI0 : Itr (dcnt d + 1) W2 P (s + 1) (.slice (some ⟨s + 1, 0, none⟩) 1 1) [(.slice (some ⟨s, 0, none⟩) 1 1, [d])] := by
    have hkp : Keeps (fun g => g < w.heap.size ∧ ¬ M g) w W2 := ⟨by omega, fun g hg hl => by
      have h1 := hbW.block g hl
      rw [hW2]
      show ((W.heap.push _).push _)[g]? = _
      rw [Array.getElem?_push, if_neg (by simp; omega), Array.getElem?_push, if_neg (by omega), h1]⟩
    refine ⟨⟨rfl, .inr ⟨s + 1, 1, _, rfl, Nat.le_refl _, b3, Nat.le_refl _, by decide, rfl, rfl⟩⟩, ?_, ?_, hPs⟩
    · intro f hf
      simp only [List.mem_cons, List.not_mem_nil, or_false] at hf
      subst hf
      refine ⟨fun _ => [.int .i64 k, .int .i64 n, .string t, lv], ⟨_, _, rfl, Nat.le_refl _, by decide, fun _ => ⟨s, 0, rfl, by rw [hP]; exact .inr rfl, by omega, ?_⟩⟩, ?_⟩
      · intro i hi j u hj
        obtain rfl : i = 0 := by simpa using hi
        rw [show 0 + 0 * 4 + j = j by omega, cell_of_row W2 s j _ _ _ b2]
        simpa using hj
      · intro i x hx
        match i, hx with
        | 0, hx =>
          simp only [List.getElem?_cons_zero, Option.some.injEq] at hx
          subst hx
          exact (hin.keep hkp).wide (fun g _ h => by rw [hP]; exact .inl h)
        | i + 1, hx => simp at hx
    · simp only [lsS, List.map_cons, List.map_nil, rmS, ordL, List.append_nil, List.length_cons, List.length_nil, ord_len]
      omega
  have hJ2 : J [] W2 := hJ [] W W2 h0 (fun g hg => by
    rw [hW2]
    show ((W.heap.push _).push _)[g]? = _
    rw [Array.getElem?_push, if_neg (by simp; omega), Array.getElem?_push, if_neg (by omega)])
  have HI0 := Lib.hid hI0
  have HJ2 := Lib.hid hJ2
  have HT2 := Lib.hid tW2
  have HORD : Hid (([] : List Vs).map prV ++ rmS (lsS [(.slice (some ⟨s, 0, none⟩) 1 1, [d])]) = ord 1 d) := Lib.hid (by simp [lsS, rmS, ordL])
  have HJ := Lib.hid hJ
  have HY := Lib.hid hY
  have HPQ := Lib.hid hPQ
  have HoQ := Lib.hid hoQ
  have HPM := Lib.hid hPM
  have HQ := Lib.hid hQ
  have HS := Lib.hid hs
  have HL := Lib.hid hl2
  have HW2 := Lib.hid hW2
  have hrow := Tryd.underlying93
  obtain ⟨i0, hi, hz0, hz1, hz2⟩ := info_parts infoDs
  clear hI0 hJ2 tW2 hJ hJx hY h0 hbW hin hPQ hoQ hPM hPs hQ hP b2 b3 sW2 hs hl1 hl2 hW2 hM c0 c1 c2 c3 hws
  refine callsIn_of_wp Tryd.func56 rfl trivial ?_ rfl
  simp only [Tryd.ntmps56, List.size_toArray, List.length_cons, List.length_nil, Nat.reduceAdd, Nat.reduceSub, Array.replicate_succ, Array.replicate_zero, List.push_toArray, List.append_toArray, List.nil_append, List.cons_append]
  gi_wp2
  gi_loopg [3] (2 * dcnt d + 1) (fun gn v wr => ∃ (S : List (Value × List Dc)) (pre : List Vs), gn = 2 * (rmS (lsS S)).length + S.length ∧ Hid (Itr (dcnt d + 1) wr P (s + 1) v S) ∧ Hid (J pre wr) ∧ Hid (Tn Q W wr) ∧ Hid (pre.map prV ++ rmS (lsS S) = ord 1 d))
  case atStart =>
    obtain rfl := HS.out
    obtain rfl := HW2.out
    refine ⟨_, [], ?_, HI0, HJ2, HT2, HORD⟩
    simp only [lsS, List.map_cons, List.map_nil, rmS, ordL, List.append_nil, List.length_cons, List.length_nil, ord_len]
  case round =>
    obtain ⟨S, pre, hgn, HI, HJ0, HT, HO⟩ := hrel
    have HG := Lib.hid hgn
    clear hgn
    cases S with
    | nil =>
      obtain ⟨a, c, rfl, -, -⟩ := HI.out.slice
      gi_wp2
      go_end0
      obtain rfl := HQ.out
      exact ⟨⟨_, rfl⟩, HT.out, .inl ⟨pre, by simpa [lsS, rmS] using HO.out, HJ0.out⟩⟩
    | cons f r =>
      obtain ⟨g, cap, rfl, hbg, hgl, ct, hcap, hcm, hlr, hfz⟩ := HI.out.top
      obtain ⟨v, q⟩ := f
      have hok := HI.out.ok (v, q) (by simp)
      simp only at ct hok
      obtain ⟨m, hmm⟩ : ∃ m, m = r.length := ⟨_, rfl⟩
      rw [← hmm] at ct hcap hlr hfz HI ⊢
      have HM := Lib.hid hmm
      clear hmm
      cases q with
      | nil =>
        obtain ⟨cs, ⟨a', c', rfl, -, -, -⟩, -⟩ := hok
        gi_wp2
        have hg2 := HG.out
        simp only [lsS, List.map_cons, rmS_nil, List.length_cons] at hg2
        have ho2 := HO.out
        simp only [lsS, List.map_cons, rmS_nil] at ho2
        gi_roundg (2 * (rmS (lsS r)).length + m)
        case measure => rw [hg2, HM.out]; simp only [lsS]; omega
        case rel =>
          refine ⟨r, pre, by rw [HM.out], ?_, HJ0, HT, Lib.hid ho2⟩
          have h1 := HI.out
          rw [HM.out] at h1 ⊢
          exact Lib.hid h1.pop
      | cons x q =>
        have hcs : ∃ a' c', v = .slice a' (q.length + 1) c' := by
          obtain ⟨cs, ⟨a', c', rfl, -, -, -⟩, -⟩ := hok
          exact ⟨a', c', rfl⟩
        obtain ⟨a', c', rfl⟩ := hcs
        obtain ⟨gx, ox, rfl, -, hc1, hc2, hdx, hrest⟩ := hok.first
        have hgx := hdx.1
        have hord := HO.out
        simp only [lsS, List.map_cons, rmS_cons] at hord
        have hlen : pre.length < dcnt d := by
          have h1 := congrArg List.length hord
          rw [ord_len] at h1
          simp only [List.length_append, List.length_cons, List.length_map] at h1
          omega
        have hkx : (dks x).length ≤ dcnt d + 1 := by
          have h1 := HI.out.few
          have h2 := len_dcntL (dks x)
          simp only [lsS, List.map_cons, rmS_cons, rmS, List.length_cons, List.length_append, ordL_len] at h1
          omega
        have hlq : ∀ g, P g → ¬ g = l := fun g hg e => HPQ.out g hg (by rw [HQ.out]; exact .inr e)
        obtain ⟨fn, tmps, asg, bdy, hy, hR⟩ := HY.out pre ⟨x, gx, ox, m + 1⟩ wr HJ0.out (fun B hB => (hdx.keep (tn_keeps hB hlq)).dv HPM.out hlr hkx) hlen
        simp only [encV] at hy
        rw [show ((m + 1 : Nat) : Int) = (m : Int) + 1 by simp] at hy
        have HR := Lib.hid hR
        have HDX := Lib.hid hdx
        have HRS := Lib.hid hrest
        have HORD2 := Lib.hid hord
        clear hR hdx hrest hord hok hlen hlq
        gi_wp2
        refine ⟨rfl, HR.out.mono ?_⟩
        rintro e W3 (⟨rfl, hJ3, t3⟩ | ⟨rfl, hJx3, t3⟩)
        · have t3 : Tn Q wr W3 := by rw [HQ.out]; exact t3
          have hI3 := HI.out.keep t3 HPQ.out HoQ.out
          have hD3 := HDX.out.keep (tn_keeps t3 HPQ.out)
          have hR3 := HRS.out.keep (tn_keeps t3 HPQ.out)
          obtain ⟨g', cap', e1, hbg3, hgl3, ct3, -, -, -, hfz3⟩ := hI3.top
          rw [← HM.out] at e1 ct3 hfz3
          simp only [Value.slice.injEq, Option.some.injEq, Addr.mk.injEq, and_true, true_and] at e1
          obtain ⟨rfl, rfl⟩ := e1
          have HT3 := Lib.hid (HT.out.trans t3)
          have HI3 := Lib.hid hI3
          have HD3 := Lib.hid hD3
          have HR3 := Lib.hid hR3
          have HJ3 := Lib.hid hJ3
          clear t3 hI3 hD3 hR3 hJ3
          obtain ⟨kx, nx, tx, lx⟩ := x
          obtain ⟨ax, capx, -, -, -, cx, hrx⟩ := HD3.out.open
          have HRX := Lib.hid hrx
          have hgg : gx < s + 1 := HI3.out.pp gx hgx
          clear hrx
          by_cases hc : c' = 1
          · obtain rfl : q = [] := List.length_eq_zero_iff.1 (by omega)
            subst hc
            have HDR : Hid (DrIn W3 P (.slice (some ⟨gx, ox, none⟩) 0 0) []) := Lib.hid (⟨fun _ => [], ⟨_, _, rfl, Nat.le_refl _, by decide, fun h => absurd h (by simp)⟩, fun i x hx => by simp at hx⟩)
            have fx : ∀ u, (W3.setCell ⟨g, m, none⟩ u).cell? ⟨gx, ox + 3, none⟩ = some (.slice ax lx.length capx) := fun u => (cell_set_ne (by omega)).trans cx
            have hW4 : Itr (dcnt d + 1) (W3.setCell ⟨g, m, none⟩ (.slice (some ⟨gx, ox, none⟩) 0 0)) P (s + 1) (.slice (some ⟨g, 0, none⟩) (m + 1) cap) ((.slice (some ⟨gx, ox, none⟩) 0 0, []) :: r) := by
              have h1 := HI3.out
              rw [HM.out] at h1 ⊢
              exact h1.seen HDR.out
            have hW4r := hW4.row
            simp only [List.length_cons, ← HM.out] at hW4r
            have HW4 := Lib.hid hW4
            have hsz : s + 1 ≤ W3.heap.size := by omega
            clear hW4
            gi_wp2_with (gi_at_builtin; go_must (refine wpListIn_append_own_at _ rfl _ _ _ rfl (s + 1) 22 i0 _ 1 24 hrow hi hz0 hz1 hz2 rfl (by decide) _ _ _ rfl (hW4r.alloc _) ⟨W3.heap.size, 0, none⟩ 1 1 [.slice ax lx.length capx] rfl rfl (by have := cell_one_new (W3.setCell ⟨g, m, none⟩ (.slice (some ⟨gx, ox, none⟩) 0 0)) (.slice ax lx.length capx) 22; simpa using this) (by intro u hu; simp only [List.mem_cons, List.not_mem_nil, or_false] at hu; subst hu; rfl) (by unfold maxLen; omega) (by omega) (by simp; omega) ?_); intro v' w' hown hgrow _ hwh; obtain ⟨gv, cv, rfl, hgv⟩ := row_some hown)
            have hgk := HG.out
            simp only [lsS, List.map_cons, rmS_cons, List.length_cons] at hgk
            obtain ⟨hW5, hB5⟩ := HW4.out.push (.slice ax lx.length capx) lx (HRX.out.keep (keeps_set W3 (fun h => by have := HI3.out.pp g h; omega) _ _)) (by simpa only [List.length_cons, HM.out] using hown) hgrow (by
              have := HI3.out.few
              simp only [lsS, List.map_cons, rmS_cons, List.length_cons, List.length_map, dks] at this ⊢
              omega) (by simp; omega)
            have hB6 : Below (s + 1) W3 w' := ((Below.refl (s + 1) W3).setCell (p := ⟨g, m, none⟩) hbg3 _).trans hB5
            have hJ6 := HJ.out _ W3 w' HJ3.out (fun k hk => hB6.block k (by have := HS.out; omega))
            have hT6 := HT3.out.hi hB6 (by have := HS.out; omega)
            have ho6 := HORD2.out
            simp only [dks] at ho6 hgk
            gi_roundg (2 * (rmS (lx :: [] :: lsS r)).length + (m + 2))
            case measure => rw [hgk, HM.out]; simp only [lsS]; omega
            case rel =>
              refine ⟨(.slice ax lx.length capx, lx) :: (.slice (some ⟨gx, ox, none⟩) 0 0, []) :: r, pre ++ [⟨.mk kx nx tx lx, gx, ox, m + 1⟩], ?_, ?_, Lib.hid hJ6, Lib.hid hT6, ?_⟩
              · simp only [lsS, List.map_cons, List.length_cons, HM.out]
              · rw [← HM.out] at hW5; exact Lib.hid hW5
              · refine Lib.hid ?_
                rw [List.map_append, List.append_assoc]
                simp only [lsS, List.map_cons, List.map_nil, prV, List.cons_append, List.nil_append]
                rw [HM.out]
                simpa only [lsS, List.length_map] using ho6
          · have hc3 : ¬ (c' : Int) = 1 := by omega
            have HDR : Hid (DrIn W3 P ((.slice (some ⟨gx, ox + 4, none⟩) q.length (c' - 1))) q) := Lib.hid (HR3.out)
            have fx : ∀ u, (W3.setCell ⟨g, m, none⟩ u).cell? ⟨gx, ox + 3, none⟩ = some (.slice ax lx.length capx) := fun u => (cell_set_ne (by omega)).trans cx
            have hW4 : Itr (dcnt d + 1) (W3.setCell ⟨g, m, none⟩ ((.slice (some ⟨gx, ox + 4, none⟩) q.length (c' - 1)))) P (s + 1) (.slice (some ⟨g, 0, none⟩) (m + 1) cap) (((.slice (some ⟨gx, ox + 4, none⟩) q.length (c' - 1)), q) :: r) := by
              have h1 := HI3.out
              rw [HM.out] at h1 ⊢
              exact h1.seen HDR.out
            have hW4r := hW4.row
            simp only [List.length_cons, ← HM.out] at hW4r
            have HW4 := Lib.hid hW4
            have hsz : s + 1 ≤ W3.heap.size := by omega
            clear hW4
            gi_wp2_with (gi_at_builtin; go_must (refine wpListIn_append_own_at _ rfl _ _ _ rfl (s + 1) 22 i0 _ 1 24 hrow hi hz0 hz1 hz2 rfl (by decide) _ _ _ rfl (hW4r.alloc _) ⟨W3.heap.size, 0, none⟩ 1 1 [.slice ax lx.length capx] rfl rfl (by have := cell_one_new (W3.setCell ⟨g, m, none⟩ ((.slice (some ⟨gx, ox + 4, none⟩) q.length (c' - 1)))) (.slice ax lx.length capx) 22; simpa using this) (by intro u hu; simp only [List.mem_cons, List.not_mem_nil, or_false] at hu; subst hu; rfl) (by unfold maxLen; omega) (by omega) (by simp; omega) ?_); intro v' w' hown hgrow _ hwh; obtain ⟨gv, cv, rfl, hgv⟩ := row_some hown)
            have hgk := HG.out
            simp only [lsS, List.map_cons, rmS_cons, List.length_cons] at hgk
            obtain ⟨hW5, hB5⟩ := HW4.out.push (.slice ax lx.length capx) lx (HRX.out.keep (keeps_set W3 (fun h => by have := HI3.out.pp g h; omega) _ _)) (by simpa only [List.length_cons, HM.out] using hown) hgrow (by
              have := HI3.out.few
              simp only [lsS, List.map_cons, rmS_cons, List.length_cons, List.length_map, dks] at this ⊢
              omega) (by simp; omega)
            have hB6 : Below (s + 1) W3 w' := ((Below.refl (s + 1) W3).setCell (p := ⟨g, m, none⟩) hbg3 _).trans hB5
            have hJ6 := HJ.out _ W3 w' HJ3.out (fun k hk => hB6.block k (by have := HS.out; omega))
            have hT6 := HT3.out.hi hB6 (by have := HS.out; omega)
            have ho6 := HORD2.out
            simp only [dks] at ho6 hgk
            gi_roundg (2 * (rmS (lx :: q :: lsS r)).length + (m + 2))
            case measure => rw [hgk, HM.out]; simp only [lsS]; omega
            case rel =>
              refine ⟨(.slice ax lx.length capx, lx) :: ((.slice (some ⟨gx, ox + 4, none⟩) q.length (c' - 1)), q) :: r, pre ++ [⟨.mk kx nx tx lx, gx, ox, m + 1⟩], ?_, ?_, Lib.hid hJ6, Lib.hid hT6, ?_⟩
              · simp only [lsS, List.map_cons, List.length_cons, HM.out]
              · rw [← HM.out] at hW5; exact Lib.hid hW5
              · refine Lib.hid ?_
                rw [List.map_append, List.append_assoc]
                simp only [lsS, List.map_cons, List.map_nil, prV, List.cons_append, List.nil_append]
                rw [HM.out]
                simpa only [lsS, List.length_map] using ho6
        · have HT3 : Hid (Tn Q wr W3) := by rw [HQ.out]; exact Lib.hid t3
          have HJ3 := Lib.hid hJx3
          clear t3 hJx3
          gi_wp2
          refine bodyPost_ret (results_none rfl _ _ _) rfl ?_
          have hT3 := HT.out.trans HT3.out
          have ho := HORD2.out
          rw [HQ.out] at hT3
          refine ⟨⟨_, rfl⟩, hT3, .inr ?_⟩
          obtain ⟨rest, hr⟩ : ∃ rest : List Vs, rest.map prV = rmS (dks x :: q :: List.map (·.2) r) := ⟨(rmS (dks x :: q :: List.map (·.2) r)).map (fun y => ⟨y.1, 0, 0, y.2⟩), by rw [List.map_map]; exact List.map_id _⟩
          refine ⟨pre, _, rest, ?_, HJ3.out⟩
          rw [List.map_append, List.map_cons, hr]
          simp only [prV]
          rw [HM.out]
          simpa only [lsS, List.length_map] using ho
end Go.Proofs.YtbjgoigdhijbgaaDoor
