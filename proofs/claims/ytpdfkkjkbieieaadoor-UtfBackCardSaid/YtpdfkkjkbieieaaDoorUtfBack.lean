/-
  Code points come back from their bytes, one by one, and are counted (promises 1.1 and 1.2): for every list of numbers (of at most 60 those that are code points are put behind one another) the statement UtfBack returns true. The three tables are tied to the program's text by the given ties; no further condition.
-/
import Derived.Test.YtpdfkkjkbieieaaDoorIsRow
import Derived.Test.YtpdfkkjkbieieaaDoorUtfMore
import Derived.Test.YtpdfkkjkbieieaaDoorCards
import Derived.Test.YtpdfkkjkbieieaaDoorTie
import Derived.OwnWalk
import Derived.Lib.Strings
namespace Go.Proofs.YtpdfkkjkbieieaaDoor.utfBack
open Go.ChangeShapes Go.WideShapes Go.ChangeAt Go.RowKit Go.PlainAid

theorem info3 : (Tryd.prog.info? 3).map (fun i => (i.zero, i.size, i.bytes)) = some (some (.int .i64 0), 1, 8) := by kernel_rfl
/-- The texts of some code points, one behind the other. -/
def cat : List Int → ByteArray
  | [] => ⟨#[]⟩
  | c :: r => Utf8.encode c ++ cat r
theorem cat_append (a b : List Int) : cat (a ++ b) = cat a ++ cat b := by
  induction a with
  | nil => show cat b = ByteArray.empty ++ cat b; rw [ByteArray.empty_append]
  | cons c r ih => show Utf8.encode c ++ cat (r ++ b) = Utf8.encode c ++ cat r ++ cat b; rw [ih, ByteArray.append_assoc]
theorem cat_snoc (a : List Int) (c : Int) : cat (a ++ [c]) = cat a ++ Utf8.encode c := by
  rw [cat_append]
  show cat a ++ (Utf8.encode c ++ ByteArray.empty) = _
  rw [ByteArray.append_empty]
/-- All of them are code points. -/
def Pts (cs : List Int) : Prop := ∀ c ∈ cs, isPt c = true
theorem cat_vd : ∀ cs, Pts cs → vd (cat cs) 0 = true
  | [], _ => vd_empty
  | c :: r, h => vd_both (vd_enc (h c (by simp))) (cat_vd r fun x hx => h x (by simp [hx]))
theorem cat_ct : ∀ cs, Pts cs → ct (cat cs) 0 = cs.length
  | [], _ => ct_end (by decide)
  | c :: r, h => by
    show ct (Utf8.encode c ++ cat r) 0 = _
    rw [ct_both _ (vd_enc (h c (by simp))), ct_enc (h c (by simp)), cat_ct r fun x hx => h x (by simp [hx]), List.length_cons]; omega
theorem cat_size : ∀ cs, Pts cs → (cat cs).size ≤ 4 * cs.length
  | [], _ => Nat.le_refl _
  | c :: r, h => by
    have := cat_size r fun x hx => h x (by simp [hx])
    have := (reads_enc (h c (by simp))).1
    have := lenOf_pos c
    show (Utf8.encode c ++ cat r).size ≤ _
    rw [ByteArray.size_append, List.length_cons]; omega
theorem extract_mid (a b c : ByteArray) : (a ++ (b ++ c)).extract a.size (a.size + b.size) = b := by
  apply ByteArray.ext
  apply Array.toList_inj.1
  have ha : a.size = a.data.toList.length := by rw [Array.length_toList]; rfl
  have hb : b.size = b.data.toList.length := by rw [Array.length_toList]; rfl
  rw [Lib.extract_data, ByteArray.data_append, ByteArray.data_append, Array.toList_append, Array.toList_append, Nat.add_sub_cancel_left, ha, hb, List.drop_left, List.take_left]
/-- What stands at the j-th. -/
theorem cat_at {cs : List Int} (hp : Pts cs) {j : Nat} (hj : j < cs.length) :
    (cat (cs.take j)).size < (cat cs).size ∧ nc (cat cs) (cat (cs.take j)).size = cs.getD j 0 ∧ nl (cat cs) (cat (cs.take j)).size = lenOf (cs.getD j 0) ∧
    (cat cs).extract (cat (cs.take j)).size ((cat (cs.take j)).size + lenOf (cs.getD j 0)) = Utf8.encode (cs.getD j 0) ∧ (cat (cs.take (j + 1))).size = (cat (cs.take j)).size + lenOf (cs.getD j 0) ∧ isPt (cs.getD j 0) = true ∧ (cat (cs.take (j + 1))).size ≤ (cat cs).size := by
  have e1 : cs.getD j 0 = cs[j] := by simp [List.getD, hj]
  have e2 : cs = cs.take j ++ (cs[j] :: cs.drop (j + 1)) := by
    rw [← List.drop_eq_getElem_cons hj, List.take_append_drop]
  have hpt : isPt cs[j] = true := hp _ (List.getElem_mem hj)
  obtain ⟨r1, r2, r3, r4⟩ := reads_enc hpt
  have hl := lenOf_pos cs[j]
  have e3 : cat cs = cat (cs.take j) ++ (Utf8.encode cs[j] ++ cat (cs.drop (j + 1))) := by
    conv => lhs; rw [e2]
    rw [cat_append]; rfl
  have e4 : cat (cs.take (j + 1)) = cat (cs.take j) ++ Utf8.encode cs[j] := by
    rw [List.take_succ_eq_append_getElem hj, cat_snoc]
  rw [e1, e4]
  have h0 := nc_app_r (cat (cs.take j)) (Utf8.encode cs[j] ++ cat (cs.drop (j + 1))) 0
  have h1 := nl_app_r (cat (cs.take j)) (Utf8.encode cs[j] ++ cat (cs.drop (j + 1))) 0
  have hb := pt_bd hpt
  have hn : ¬ nc (Utf8.encode cs[j]) 0 < 0 := by omega
  rw [Nat.add_zero, nc_app_l _ hn, r2] at h0
  rw [Nat.add_zero, nl_app_l _ hn, r3] at h1
  rw [← e3] at h0 h1
  refine ⟨?_, h0, h1, ?_, ?_, hpt, ?_⟩
  · rw [e3, ByteArray.size_append, ByteArray.size_append]; omega
  · conv => lhs; rw [e3, ← r1]
    exact extract_mid _ _ _
  · rw [ByteArray.size_append, r1]
  · rw [e3, ByteArray.size_append, ByteArray.size_append, ByteArray.size_append]; omega
theorem pts_snoc {cs : List Int} {c : Int} (h : Pts cs) (hc : isPt c = true) : Pts (cs ++ [c]) := by
  intro x hx
  rcases List.mem_append.1 hx with hx | hx
  · exact h x hx
  · rw [List.mem_singleton.1 hx]; exact hc

/-- So far: the text, the numbers that it is made of, the slice that holds them. -/
def Bk (W w : World) (k : Nat) (S : ByteArray) (v : Value) (cs : List Int) : Prop :=
  cs.length ≤ k ∧ Pts cs ∧ S = cat cs ∧ w.ownsRow W.heap.size 3 1 v cs.length (cs.map (Value.int .i64)) ∧ Below W.heap.size W w
theorem bk_start (W : World) : Bk W W 0 ⟨#[]⟩ (.slice none 0 0) [] := ⟨Nat.le_refl _, fun c h => absurd h (by simp), rfl, World.ownsRow_nil _ _ _ _, Below.refl _ _⟩

theorem own_below {w w' : World} {base : Nat} {e : TypeId} {size : Nat} {v : Value} {n : Nat} {xs : List Value} (h : w.ownsRow base e size v n xs) (hb : Below w.heap.size w w') : w'.ownsRow base e size v n xs := by
  obtain ⟨h1, h2 | ⟨g, cap, cur, h3, h4, h5, h6⟩⟩ := h
  · exact ⟨h1, .inl h2⟩
  · refine ⟨h1, .inr ⟨g, cap, cur, h3, h4, ?_, h6⟩⟩
    rw [hb.block g (by have := (Array.getElem?_eq_some_iff.1 h5).1; exact this)]
    exact h5
/-- One more. -/
theorem bk_put {W w w1 w2 : World} {k : Nat} {S : ByteArray} {v v' : Value} {cs : List Int} {c : Int} (h : Bk W w k S v cs) (hp : isPt c = true) (h1 : Below w.heap.size w w1) (o : Obj)
    (hown : w2.ownsRow W.heap.size 3 1 v' (cs.length + 1) (cs.map (Value.int .i64) ++ [.int .i64 c])) (hg : (w1.alloc o).grownBy w2 v.ownBlock) :
    Bk W w2 (k + 1) (S ++ Utf8.encode c) v' (cs ++ [c]) := by
  obtain ⟨b1, b2, b3, b4, b5⟩ := h
  refine ⟨by rw [List.length_append]; simp; omega, pts_snoc b2 hp, by rw [b3, cat_snoc], by rw [List.length_append, List.map_append]; exact hown, ?_⟩
  have hb1 : Below W.heap.size W w1 := b5.trans (h1.mono b5.size)
  refine (hb1.alloc hb1.size o).grown hg (Nat.le_trans hb1.size (by simp)) ?_
  intro j hj
  exact (b4.lt j hj).1
/-- None more. -/
theorem bk_skip {W w w1 : World} {k : Nat} {S : ByteArray} {v : Value} {cs : List Int} (h : Bk W w k S v cs) (h1 : Below w.heap.size w w1) : Bk W w1 (k + 1) S v cs := by
  obtain ⟨b1, b2, b3, b4, b5⟩ := h
  exact ⟨by omega, b2, b3, own_below b4 h1, b5.trans (h1.mono b5.size)⟩

set_option maxRecDepth 100000 in
set_option maxHeartbeats 4000000 in
theorem walk (a : Option Addr) (len cap : Nat) (zs : List Int) (w : World) (hr : IsRow w a len cap zs) (ht : Tabs w) :
    Calls Tryd.prog 4 #[.slice a len cap] w fun e w' => e = .returned (.bool true) ∧ Below w.heap.size w w' := by
  have HT := Lib.hid ht
  clear ht
  by_cases g1 : 60 < len
  · clear hr
    go_enter Tryd.func4, Tryd.ntmps4
    go_wp2_with fail
    refine (told_any _ HT.out).mono ?_
    rintro e w1 ⟨rfl, q1⟩
    go_wp2
    go_ret
    exact ⟨rfl, q1⟩
  obtain ⟨i0, hi, hz0, hz1, hz2⟩ := info_parts info3
  have HR := Lib.hid hr
  clear hr
  have g1' : decide (60 < (len : Int)) = false := by simp; omega
  go_enter Tryd.func4, Tryd.ntmps4
  go_wp2_with fail
  go_loopw [3, 4, 5] (fun s v i wr => ∃ (k : Nat) (S : ByteArray) (cs : List Int), k ≤ len ∧ i = .int .i64 k ∧ s = .string S ∧ Hid (Bk w wr k S v cs)) (fun _ _ i _ => len - (intOf i).toNat)
  case atStart => exact ⟨0, ⟨#[]⟩, [], Nat.zero_le _, rfl, rfl, bk_start w⟩
  case round =>
    obtain ⟨k, S, cs, hk, rfl, rfl, HB⟩ := hrel
    have HT1 := Lib.hid (HT.out.below HB.out.2.2.2.2)
    by_cases hlt : k < len
    · obtain ⟨b, off, rfl, hb, hc⟩ := HR.out.at (by omega)
      have hcell := (HB.out.2.2.2.2.cell (p := ⟨b, off + k, none⟩) hb).trans (hc k hlt)
      obtain ⟨z, hz⟩ : ∃ z, z = zs.getD k 0 := ⟨_, rfl⟩
      rw [← hz] at hcell
      clear hz hc
      obtain ⟨c, hc0, hc1, er⟩ : ∃ c : Int, 0 ≤ c ∧ c < 1114112 ∧ (IntKind.u64.wrap z).tmod 1114112 = c := by
        have := IntKind.wrap_u64 z
        exact ⟨_, Int.tmod_nonneg _ (by omega), Int.tmod_lt_of_pos _ (by omega), rfl⟩
      have HP := Lib.hid (fun W (hT : Tabs W) => put_any c W hT)
      by_cases hp : isPt c = true
      · have hgap : c < 55296 ∨ (decide (c < 55296) = false ∧ 57343 < c) := by
          have := of_decide_eq_true hp
          by_cases h : c < 55296
          · exact .inl h
          · exact .inr ⟨by simpa using h, by omega⟩
        have hpu : pu c = Utf8.encode c := by unfold pu; rw [if_pos hp]
        rw [hpu] at HP
        have s1 := (reads_enc hp).1
        have s2 := lenOf_pos c
        have s3 : 1 ≤ (Utf8.encode c).size := by omega
        have s4 : (Utf8.encode c).size ≤ 4 := by omega
        have s5 := cat_size cs HB.out.2.1
        have s6 := HB.out.1
        rw [← HB.out.2.2.1] at s5
        have HPT := Lib.hid hp
        clear hpu s1 s2 hp
        obtain ⟨E, hE⟩ : ∃ E, E = Utf8.encode c := ⟨_, rfl⟩
        rw [← hE] at HP s3 s4
        have HE := Lib.hid hE
        have s7 : E.toList ≠ [] := by
          intro h0
          have : E.data.toList.length = 0 := by
            have h1 : E.toList = E.data.toList := ByteArray.toList_eq E
            rw [← h1, h0]; rfl
          have h2 : E.size = E.data.toList.length := by rw [Array.length_toList]; rfl
          omega
        have s8 : E.toList.isEmpty = false := by simpa using s7
        have s9 : ((E.size : Int)) ≤ 4 := by omega
        clear hE
        rcases hgap with hgap | ⟨hgap, hgap'⟩
        all_goals
          go_wp2_with fail
          refine (HP.out _ HT1.out).mono ?_
          rintro e w1 ⟨rfl, q1⟩
          have Q1 := Lib.hid q1
          have HO := own_below HB.out.2.2.2.1 q1
          have zle : w.heap.size ≤ w1.heap.size := Nat.le_trans HB.out.2.2.2.2.size q1.size
          clear q1
          go_wp2_with (at_builtin; go_must (refine wpList_append_own _ rfl _ _ 29 rfl w.heap.size 3 i0 (.int .i64 0) 1 8 Tryd.underlying29 hi hz0 hz1 hz2 rfl (by decide) _ _ _ rfl (HO.alloc _) ⟨w1.heap.size, 0, none⟩ 1 1 [.int .i64 c] rfl rfl (cell_one_new _ _ _) (by intro u hu; simp at hu; subst hu; rfl) (by unfold maxLen; omega) (by omega) (by simp; omega) ?_); intro v' w2 hown hgrow _)
          have R := Lib.hid (bk_put HB.out HPT.out Q1.out _ hown hgrow)
          rw [← HE.out] at R
          clear hown hgrow
          go_wp2_with fail
          go_roundw
          case rel => exact ⟨k + 1, _, _, by omega, by go_num, rfl, R⟩
          case measure => simp [intOf]; omega
      · have hpu : pu c = ⟨#[]⟩ := by unfold pu; rw [if_neg hp]
        rw [hpu] at HP
        have hgap : decide (c < 55296) = false ∧ decide (57343 < c) = false := by
          have h0 : ¬ c < 55296 := fun h => hp (decide_eq_true (.inl ⟨hc0, h⟩))
          have h1 : ¬ 57343 < c := fun h => hp (decide_eq_true (.inr ⟨by omega, hc1⟩))
          exact ⟨by simpa using h0, by simpa using h1⟩
        obtain ⟨d1, d2⟩ := hgap
        clear hpu hp
        go_wp2_with fail
        refine (HP.out _ HT1.out).mono ?_
        rintro e w1 ⟨rfl, q1⟩
        have R := Lib.hid (bk_skip HB.out q1)
        clear q1
        go_wp2_with fail
        go_roundw
        case rel => exact ⟨k + 1, _, _, by omega, by go_num, rfl, R⟩
        case measure => simp [intOf]; omega
    · obtain rfl : k = len := by omega
      obtain ⟨b1, b2, b3, b4, b5⟩ := HB.out
      have s5 := cat_size cs b2
      rw [← b3] at s5
      have hm : S.size ≤ maxLen := by unfold maxLen; omega
      have C1 := fun W (hT : Tabs W) => valid_any S W hT hm
      have C2 := fun W (hT : Tabs W) => count_any S W hT hm
      have e1 := cat_vd cs b2
      have e2 := cat_ct cs b2
      rw [← b3] at e1 e2
      rw [e1] at C1
      rw [e2] at C2
      have H1 := Lib.hid C1
      have H2 := Lib.hid C2
      have B2 := Lib.hid b2
      have B3 := Lib.hid b3
      have B5 := Lib.hid b5
      clear C1 C2 e1 e2 b2 b3 b5 HB
      obtain ⟨wB, rfl⟩ : ∃ wB : World, wB = wr := ⟨_, rfl⟩
      obtain ⟨hxs, ⟨rfl, hn⟩ | ⟨g, cp, cur, rfl, hg, hblk, hcp, hcm, hcs, htk⟩⟩ := b4
      · have hS : S.size = 0 := by omega
        have hS2 : cs.length = 0 := hn
        rw [hS2] at H2
        clear hn hxs
        go_wp2_with fail
        go_loopw [8, 9] (fun p i wr => p = .int .i64 0 ∧ i = .int .i64 0 ∧ Hid (wr = wB)) (fun _ _ _ => 0)
        case atStart => exact ⟨rfl, rfl, rfl⟩
        case round =>
          obtain ⟨rfl, rfl, HW⟩ := hrel
          obtain rfl := HW.out
          go_wp2_with fail
          refine (told_any _ (HT1.out)).mono ?_
          rintro e w1 ⟨rfl, q1⟩
          have Q1 := Lib.hid (B5.out.trans (q1.mono B5.out.size))
          have HT2 := Lib.hid (HT.out.below Q1.out)
          clear q1
          go_wp2_with fail
          refine (H1.out _ HT2.out).mono ?_
          rintro e w2 ⟨rfl, n1, rfl⟩
          go_wp2_with fail
          refine (H2.out _ (HT2.out.drewN _)).mono ?_
          rintro e w2 ⟨rfl, n2, rfl⟩
          go_wp2
          go_ret
          exact ⟨rfl, Q1.out.trans ((Below.ofDrewN _ _).mono Q1.out.size)⟩
      · have hcells : ∀ j, j < cs.length → wB.cell? ⟨g, j, none⟩ = some (.int .i64 (cs.getD j 0)) := fun j hj => by
          have h1 : (cur.toList.take (cs.length * 1))[j]? = some (.int .i64 (cs.getD j 0)) := by
            rw [htk, List.getElem?_map, List.getElem?_eq_getElem hj]
            simp [List.getD, hj]
          rw [List.getElem?_take_of_lt (by omega)] at h1
          simp only [World.cell?, hblk]
          simpa using h1
        have HCE := Lib.hid hcells
        have l1 : cs.length ≤ 60 := by omega
        clear hcells hblk htk hxs hcs hcm
        go_wp2_with fail
        go_loopw [8, 9] (fun p i wr => ∃ (j q : Nat), j ≤ cs.length ∧ q ≤ S.size ∧ i = .int .i64 j ∧ p = .int .i64 q ∧ Hid (q = (cat (cs.take j)).size) ∧ Hid (∃ n, wr = wB.drewN n)) (fun _ i _ => cs.length - (intOf i).toNat)
        case atStart => exact ⟨0, 0, Nat.zero_le _, Nat.zero_le _, rfl, rfl, rfl, ⟨0, rfl⟩⟩
        case round =>
          obtain ⟨j, q, hj, hq, rfl, rfl, HQ, HW⟩ := hrel
          obtain ⟨n0, rfl⟩ := HW.out
          by_cases hjl : j < cs.length
          · have CA := cat_at B2.out hjl
            rw [← HQ.out, ← B3.out] at CA
            have hcj := HCE.out j hjl
            obtain ⟨d, hd⟩ : ∃ d, d = cs.getD j 0 := ⟨_, rfl⟩
            rw [← hd] at CA hcj
            clear hd
            obtain ⟨a1, a2, a3, a4, a5, a6, a7⟩ := CA
            have lb := lenOf_pos d
            have db := pt_bd a6
            obtain ⟨lb1, lb2⟩ := lb
            obtain ⟨db1, db2⟩ := db
            have C3 := fun W (hT : Tabs W) => next_in S q W hT a1 hm
            rw [a2, a3] at C3
            have H3 := Lib.hid C3
            have a8 : q + lenOf d ≤ S.size := by omega
            obtain ⟨L, hL⟩ : ∃ L, L = lenOf d := ⟨_, rfl⟩
            rw [← hL] at H3 lb1 lb2 a4 a5 a8
            obtain ⟨E, hE⟩ : ∃ E, Utf8.encode d = E := ⟨_, rfl⟩
            rw [hE] at a4
            have A5 := Lib.hid a5
            clear C3 a2 a3 a5 a6 a7 hL
            go_wp2_with fail
            refine (H3.out _ (HT1.out.drewN _)).mono ?_
            rintro e w1 ⟨rfl, n1, rfl⟩
            go_wp2_with fail
            go_roundw
            case rel => exact ⟨j + 1, q + L, by omega, a8, by go_num, by go_num, Lib.hid A5.out.symm, ⟨_, rfl⟩⟩
            case measure => simp [intOf]; omega
          · obtain rfl : j = cs.length := by omega
            have hqs : q = S.size := by rw [HQ.out, List.take_length, B3.out]
            subst hqs
            go_wp2_with fail
            refine (told_any _ (HT1.out.drewN _)).mono ?_
            rintro e w1 ⟨rfl, q1⟩
            have Q1 := Lib.hid (B5.out.trans (((Below.ofDrewN wB _).trans q1).mono B5.out.size))
            have HT2 := Lib.hid (HT.out.below Q1.out)
            clear q1
            go_wp2_with fail
            refine (H1.out _ HT2.out).mono ?_
            rintro e w2 ⟨rfl, n1, rfl⟩
            go_wp2_with fail
            refine (H2.out _ (HT2.out.drewN _)).mono ?_
            rintro e w2 ⟨rfl, n2, rfl⟩
            go_wp2
            go_ret
            exact ⟨by simp, Q1.out.trans ((Below.ofDrewN _ _).mono Q1.out.size)⟩

set_option maxRecDepth 100000 in
theorem lifted (os : Os) (started : os.Started) (H : Type) (enc : TypeId × Value → H) :
    ReturnsInHanded {} Tryd.checked os 4 .any (fun w args => (Rows.utfBackSpec.pre enc Tryd.prog Tryd.f4 [] false w args ∧ laidMetH Tryd.prog utfLaid w) ∧ sizedMet enc Tryd.prog Tryd.f4 (OpenSpec.ofChange Rows.utfBackSpec) false w args)
      (Rows.utfBackSpec.post enc Tryd.prog Tryd.f4 false true false false) := by
  refine returnsInHanded_of_change_and (C := Tryd.checked) (X := fun w _ => laidMetH Tryd.prog utfLaid w) (fun _ _ _ hh h => h.of_heap hh) own started (by kernel_rfl) Tryd.func4
    (ChangeSpec.witness_shaped (enc := enc) (C := Tryd.checked) (os := os) (X := fun w _ => laidMetH Tryd.prog utfLaid w) false (World.doorLaid Tryd.prog 400 os) #[.slice none 0 0] 8 rfl (World.shaped_of_RefB (by kernel_rfl) (by kernel_rfl)) (by kernel_rfl) (by kernel_rfl) (by kernel_rfl) (door_met os _)) ?_
  intro W base args ds gs before hval0 hW _ _ hL _
  have hval : ∀ (j : Nat) t v, Tryd.f4.params[j]? = some t → args[j]? = some v → Value.okWide Tryd.prog W .any base t v := hval0
  have hW' := hW
  obtain ⟨p, q, hA0, hV, rfl, hfz, hnd⟩ := hW
  have hA : DataW.TrodAll enc Tryd.prog W 0 (fun _ => true) true Tryd.f4.params.toList args.toList ds p := hA0
  rw [Tryd.params4] at hA hval
  obtain ⟨v0, vs0, d0, ds0, p0, q0, hargs, rfl, rfl, h0, r0⟩ := trodAll_cons hA
  obtain ⟨rfl, rfl, rfl⟩ := trodAll_nil r0
  obtain rfl : args = #[v0] := by cases args; simp_all
  obtain ⟨rfl, rfl⟩ := trodVars_none hV
  obtain ⟨a0, len0, cap0, rfl⟩ := okWide_slice Tryd.underlying29 (hval 0 29 v0 rfl rfl)
  have k0 := h0
  have lt0 : ∀ x ∈ p0, x.block < W.heap.size := by obtain ⟨m, hm⟩ := k0; exact DataW.trod_lt m _ _ _ hm
  obtain ⟨z0, w0⟩ : ∃ zs, IsRow W a0 len0 cap0 zs := by
    obtain ⟨fuel, hf⟩ := h0
    rcases open_ints Tryd.underlying29 Tryd.underlying3 (by kernel_rfl) hf with ⟨hcs, _⟩ | ⟨x, l, c, zs, hcs, _, hl, hm, hz, _, hcell, hwz⟩
    · simp [Value.cells] at hcs
      obtain ⟨rfl, rfl, rfl⟩ := hcs
      exact ⟨[], .inl ⟨rfl, rfl, rfl, rfl⟩⟩
    · simp [Value.cells] at hcs
      obtain ⟨rfl, rfl, rfl⟩ := hcs
      exact ⟨zs, .inr ⟨_, rfl, hl, hm, by simpa using hz, hcell, hwz⟩⟩
  clear hA0 hval0
  refine (walk a0 len0 cap0 z0 W w0 (tabs_of_laid hL)).mono fun e W' ⟨he, bel⟩ => ?_
  subst he
  exact ⟨_, rfl, _, _, _, [], _, [], hW', trodAll_mk1 (shut_bool Tryd.underlying4 _), (trodAll_cons_mk (Below.trod laidOut (by kernel_rfl) (of_decide_eq_true (by kernel_rfl)) k0 bel lt0) trodAll_mk0), rfl, bel.frame _, fun h => by cases h⟩
theorem over : Rows.UtfBackSaid :=
  OpenClaim.holds_of_wide 4 Tryd.f4 rfl rfl rfl rfl rfl rfl rfl ⟨rfl, rfl, rfl, rfl, rfl⟩ rfl rfl rfl rfl rfl (by kernel_rfl) Tryd.func4 (by kernel_rfl)
    (of_decide_eq_true (by kernel_rfl)) (by unfold Func.isWrapper; first | (rw [if_pos (by decide +kernel)]; kernel_rfl) | (rw [if_neg (by decide +kernel)]; exact ⟨rfl, rfl⟩))
    (fun os started H enc _ => lifted os started H enc)
/-- THE TIED CARD. -/
theorem proved : Rows.UtfBackCardSaid :=
  Claim7.holds_tied_plain_at .later [] [.data, .data, .data] true Rows.utfBackCard.stood.harness false
    over (fun _ h => by cases h) (by kernel_rfl) (fun _ h => by cases h) utfBack_row_tie rfl ⟨rfl, rfl⟩ (by kernel_rfl) rfl
    (fun f fn hf hfn => by
      obtain rfl : f = 4 := Option.some.inj ((show Tryd.prog.funcNamed "galley/galleylaw1.UtfBack" = some 4 by kernel_rfl).symm.trans hf) |>.symm
      obtain rfl : fn = Tryd.f4 := (Option.some.inj (Tryd.func4.symm.trans hfn)).symm
      exact ⟨by kernel_rfl, fun j t ht => by
        rw [Tryd.params4] at ht
        have hm : t ∈ [29] := by
          have := Array.mem_of_getElem? ht
          simpa using this
        have hall : ([29].all fun u => !Tryd.prog.wantsStandIn u) = true := by kernel_rfl
        exact (show Tryd.prog.wantsStandIn t = false by simpa using List.all_eq_true.1 hall t hm)⟩)
    (by kernel_rfl)
#print axioms proved
end Go.Proofs.YtpdfkkjkbieieaaDoor.utfBack
