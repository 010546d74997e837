/-
  THE PROGRAM's cell: its five calls.
-/
import Derived.Test.YtjenofochgcjmaaDoorCellDefs
import Derived.Test.YtjenofochgcjmaaDoorAid
import Derived.Test.YtjenofochgcjmaaDoorUtfs
import Derived.Test.YtjenofochgcjmaaDoorStrClone
import Derived.Shelf.Strings.Repeat
namespace Go.Proofs.YtjenofochgcjmaaDoor
open Go.RowKit Go.PlainAid

def repRen : Go.Shelf.Ren :=
  ⟨fun
    | 99 => 26
    | 105 => 23
    | 165 => 30
    | 166 => 31
    | 169 => 33
    | 170 => 32
    | 206 => 35
    | 212 => 29
    | 240 => 40
    | 241 => 41
    | 263 => 38
    | 264 => 39
    | 276 => 42
    | 277 => 43
    | n => n,
   fun
    | 0 => 0
    | 3 => 3
    | 4 => 4
    | 5 => 5
    | 9 => 9
    | 20 => 20
    | 37 => 37
    | 46 => 23
    | 51 => 53
    | 53 => 56
    | 70 => 41
    | 72 => 43
    | 75 => 46
    | 76 => 47
    | 80 => 50
    | 109 => 39
    | 127 => 59
    | 146 => 54
    | 148 => 57
    | 164 => 61
    | n => n,
   fun n => n⟩
theorem repLays : Lays.n105 Tryd.prog repRen := {
  mixed := by kernel_rfl
  f99 := Tryd.func26
  f105 := Tryd.func23
  f165 := Tryd.func30
  f166 := Tryd.func31
  f169 := Tryd.func33
  f170 := Tryd.func32
  f206 := Tryd.func35
  f212 := Tryd.func29
  f240 := Tryd.func40
  f241 := Tryd.func41
  f263 := Tryd.func38
  f264 := Tryd.func39
  f276 := Tryd.func42
  f277 := Tryd.func43
  t0 := Tryd.underlying0
  a0 := Tryd.isAgg0
  z0 := Tryd.sizeOf0
  v0 := Tryd.zeroValue0
  t3 := Tryd.underlying3
  a3 := Tryd.isAgg3
  z3 := Tryd.sizeOf3
  v3 := Tryd.zeroValue3
  t4 := Tryd.underlying4
  a4 := Tryd.isAgg4
  z4 := Tryd.sizeOf4
  v4 := Tryd.zeroValue4
  t5 := Tryd.underlying5
  a5 := Tryd.isAgg5
  z5 := Tryd.sizeOf5
  v5 := Tryd.zeroValue5
  t9 := Tryd.underlying9
  a9 := Tryd.isAgg9
  z9 := Tryd.sizeOf9
  v9 := Tryd.zeroValue9
  t20 := Tryd.underlying20
  a20 := Tryd.isAgg20
  z20 := Tryd.sizeOf20
  v20 := Tryd.zeroValue20
  t37 := Tryd.underlying37
  a37 := Tryd.isAgg37
  z37 := Tryd.sizeOf37
  v37 := Tryd.zeroValue37
  t46 := Tryd.underlying23
  a46 := Tryd.isAgg23
  z46 := Tryd.sizeOf23
  v46 := Tryd.zeroValue23
  t51 := Tryd.underlying53
  a51 := Tryd.isAgg53
  z51 := Tryd.sizeOf53
  v51 := Tryd.zeroValue53
  t53 := Tryd.underlying56
  a53 := Tryd.isAgg56
  z53 := Tryd.sizeOf56
  v53 := Tryd.zeroValue56
  t70 := Tryd.underlying41
  a70 := Tryd.isAgg41
  z70 := Tryd.sizeOf41
  v70 := Tryd.zeroValue41
  t72 := Tryd.underlying43
  a72 := Tryd.isAgg43
  z72 := Tryd.sizeOf43
  v72 := Tryd.zeroValue43
  t75 := Tryd.underlying46
  a75 := Tryd.isAgg46
  z75 := Tryd.sizeOf46
  v75 := Tryd.zeroValue46
  t76 := Tryd.underlying47
  a76 := Tryd.isAgg47
  z76 := Tryd.sizeOf47
  v76 := Tryd.zeroValue47
  t109 := Tryd.underlying39
  a109 := Tryd.isAgg39
  z109 := Tryd.sizeOf39
  v109 := Tryd.zeroValue39
  t127 := Tryd.underlying59
  a127 := Tryd.isAgg59
  z127 := Tryd.sizeOf59
  v127 := Tryd.zeroValue59
  t146 := Tryd.underlying54
  a146 := Tryd.isAgg54
  z146 := Tryd.sizeOf54
  v146 := Tryd.zeroValue54
  t148 := Tryd.underlying57
  a148 := Tryd.isAgg57
  z148 := Tryd.sizeOf57
  v148 := Tryd.zeroValue57
  t164 := Tryd.underlying61
  a164 := Tryd.isAgg61
  z164 := Tryd.sizeOf61
  v164 := Tryd.zeroValue61
}
theorem repX : Builder.Extra Tryd.prog repRen where
  sizeBuilder := by kernel_rfl
  liesBuilder := by kernel_rfl
  t5 := Tryd.underlying5
  a5 := Tryd.isAgg5
  z5 := Tryd.sizeOf5
  v5 := Tryd.zeroValue5
  infoByte := by kernel_rfl
  cellsByte := by kernel_rfl
  sizeByte := by kernel_rfl
  neB5 := by decide
theorem rep_blks (c : Nat) : (⟨(Lib.repeatL (ByteArray.mk #[32]).data.toList c).toArray⟩ : ByteArray) = blks c := by
  have e := Lib.repeatL_replicate 32 1 c
  rw [Nat.mul_one] at e
  show (⟨(Lib.repeatL (List.replicate 1 (32 : UInt8)) c).toArray⟩ : ByteArray) = _
  rw [e]
  rfl
theorem repeat_any (c : Nat) (w : World) (hc : c ≤ 20000) : Calls Tryd.prog 23 #[.string ⟨#[32]⟩, .int .i64 (c : Int)] w fun e w' => e = .returned (.string (blks c)) ∧ Below w.heap.size w w' := by
  have h := Any.strings_Repeat repLays repX ⟨#[32]⟩ c w (by omega) (by show 1 * c ≤ _; omega)
  rw [rep_blks] at h
  exact h
/-- Where the last byte ends of which p holds. -/
def bh (p : Int → Bool) (s : ByteArray) : Nat → Nat
  | 0 => 0
  | e + 1 => if p (bt s e) = true then e + 1 else bh p s e
theorem bh_le (p : Int → Bool) (s : ByteArray) : ∀ e, bh p s e ≤ e
  | 0 => Nat.le_refl _
  | e + 1 => by have := bh_le p s e; simp only [bh]; split <;> omega
theorem bh_end (s : ByteArray) : ∀ e, bh (fun c => c == 10) s e = lnf s e
  | 0 => rfl
  | e + 1 => by simp only [bh, lnf, bh_end s e, beq_iff_eq]
theorem bh_tr (s : ByteArray) : ∀ e, bh (fun c => !tb c) s e = tr s 0 e
  | 0 => rfl
  | e + 1 => by
    simp only [bh, tr, bh_tr s e]
    cases tb (bt s e) <;> simp
theorem cendsF_any (c : Int) (w : World) : Calls Tryd.prog 22 #[.int .u8 c] w fun e w' => e = .returned (.bool (c == 10)) ∧ w = w' := by
  go_enter Tryd.func22, Tryd.ntmps22
  go_wp2_with fail
  go_ret
  exact ⟨rfl, rfl⟩
theorem cseenF_any (c : Int) (w : World) : Calls Tryd.prog 25 #[.int .u8 c] w fun e w' => e = .returned (.bool (!tb c)) ∧ w = w' := by
  have h : ∀ b, b = (!tb c) → Ending.returned (.bool b) = Ending.returned (.bool (!tb c)) := fun b h => by rw [h]
  unfold tb at h ⊢
  cases h1 : (c == 32) <;> cases h2 : (c == 9) <;> cases h3 : (c == 13) <;>
  · have g1 : (c != 32) = !(c == 32) := rfl
    have g2 : (c != 9) = !(c == 9) := rfl
    have g3 : (c != 13) = !(c == 13) := rfl
    rw [h1] at g1; rw [h2] at g2; rw [h3] at g3
    clear h
    go_enter Tryd.func25, Tryd.ntmps25
    go_wp2_with fail
    go_ret
    exact ⟨rfl, rfl⟩
set_option maxRecDepth 100000 in
theorem behindE_any (s : ByteArray) (hs : s.size ≤ 1048576) (w : World) :
    Calls Tryd.prog 21 #[.string s, .func (.func 22) #[] #[]] w fun e w' => e = .returned (.int .i64 (bh (fun c => c == 10) s s.size : Int)) ∧ w = w' := by
  obtain ⟨p, hp⟩ : ∃ p : Int → Bool, p = (fun c => c == 10) := ⟨_, rfl⟩
  rw [← hp]
  have HK : Hid (∀ (c : Int) (w : World), Calls Tryd.prog 22 #[.int .u8 c] w fun e w' => e = .returned (.bool (p c)) ∧ w = w') := Lib.hid (by rw [hp]; exact (fun c W => cendsF_any c W))
  have HG := Lib.hid (get_bt s)
  obtain ⟨R, hR⟩ : ∃ R, R = bh p s s.size := ⟨_, rfl⟩
  rw [← hR]
  have HR := Lib.hid hR
  clear hR hp
  go_enter Tryd.func21, Tryd.ntmps21
  go_wp2_with fail
  go_loopg [9] s.size (fun gn i wr => ∃ j : Nat, gn = s.size - j ∧ j ≤ s.size ∧ i = .int .i64 (j : Int) ∧ wr = w ∧ Hid (R = bh p s (s.size - j)))
  case atStart => exact ⟨0, rfl, Nat.zero_le _, rfl, rfl, HR⟩
  case round =>
    obtain ⟨j, hgn, hj, rfl, rfl, HJ⟩ := hrel
    by_cases h0 : j < s.size
    · obtain ⟨n, hn⟩ : ∃ n, n = s.size - (j + 1) := ⟨_, rfl⟩
      have hn1 : s.size - j = n + 1 := by omega
      have hlt : n < s.size := by omega
      have gx := HG.out n hlt
      have hstep := HJ.out
      rw [hn1] at hstep
      simp only [bh] at hstep
      obtain ⟨b, hb⟩ : ∃ c, c = bt s n := ⟨_, rfl⟩
      rw [← hb] at gx hstep
      have jn : (j : Int) < (s.size : Int) := by omega
      have k1 : ((s.size : Int) - (j : Int) - 1).toNat = n := by omega
      have HS := Lib.hid hstep
      have HN := Lib.hid hn1
      have HN' := Lib.hid hn
      clear hstep hb hn1 hn
      go_wp2_with fail
      refine (HK.out _ _).mono ?_
      rintro e w1 ⟨rfl, rfl⟩
      cases hp : p b
      · have HF : Hid (R = bh p s (s.size - (j + 1))) := Lib.hid (by have := HS.out; rw [hp] at this; simp only [Bool.false_eq_true, if_false] at this; rw [this, HN'.out])
        go_wp2_with fail
        go_roundg (s.size - (j + 1))
        case measure => omega
        case rel => exact ⟨j + 1, rfl, h0, by go_num, rfl, HF⟩
      · have HF : Hid (R = n + 1) := Lib.hid (by have := HS.out; rw [hp] at this; simpa using this)
        go_wp2_with fail
        go_ret
        exact ⟨by rw [HF.out, ← HN.out]; exact retI (by omega), rfl⟩
    · obtain rfl : j = s.size := by omega
      have HF : Hid (R = 0) := Lib.hid (by rw [HJ.out, Nat.sub_self]; rfl)
      have jn : ¬ ((s.size : Int) < (s.size : Int)) := by omega
      go_wp2_with fail
      go_ret
      exact ⟨by rw [HF.out]; rfl, rfl⟩
set_option maxRecDepth 100000 in
theorem behindS_any (s : ByteArray) (hs : s.size ≤ 1048576) (w : World) :
    Calls Tryd.prog 21 #[.string s, .func (.func 25) #[] #[]] w fun e w' => e = .returned (.int .i64 (bh (fun c => !tb c) s s.size : Int)) ∧ w = w' := by
  obtain ⟨p, hp⟩ : ∃ p : Int → Bool, p = (fun c => !tb c) := ⟨_, rfl⟩
  rw [← hp]
  have HK : Hid (∀ (c : Int) (w : World), Calls Tryd.prog 25 #[.int .u8 c] w fun e w' => e = .returned (.bool (p c)) ∧ w = w') := Lib.hid (by rw [hp]; exact (fun c W => cseenF_any c W))
  have HG := Lib.hid (get_bt s)
  obtain ⟨R, hR⟩ : ∃ R, R = bh p s s.size := ⟨_, rfl⟩
  rw [← hR]
  have HR := Lib.hid hR
  clear hR hp
  go_enter Tryd.func21, Tryd.ntmps21
  go_wp2_with fail
  go_loopg [9] s.size (fun gn i wr => ∃ j : Nat, gn = s.size - j ∧ j ≤ s.size ∧ i = .int .i64 (j : Int) ∧ wr = w ∧ Hid (R = bh p s (s.size - j)))
  case atStart => exact ⟨0, rfl, Nat.zero_le _, rfl, rfl, HR⟩
  case round =>
    obtain ⟨j, hgn, hj, rfl, rfl, HJ⟩ := hrel
    by_cases h0 : j < s.size
    · obtain ⟨n, hn⟩ : ∃ n, n = s.size - (j + 1) := ⟨_, rfl⟩
      have hn1 : s.size - j = n + 1 := by omega
      have hlt : n < s.size := by omega
      have gx := HG.out n hlt
      have hstep := HJ.out
      rw [hn1] at hstep
      simp only [bh] at hstep
      obtain ⟨b, hb⟩ : ∃ c, c = bt s n := ⟨_, rfl⟩
      rw [← hb] at gx hstep
      have jn : (j : Int) < (s.size : Int) := by omega
      have k1 : ((s.size : Int) - (j : Int) - 1).toNat = n := by omega
      have HS := Lib.hid hstep
      have HN := Lib.hid hn1
      have HN' := Lib.hid hn
      clear hstep hb hn1 hn
      go_wp2_with fail
      refine (HK.out _ _).mono ?_
      rintro e w1 ⟨rfl, rfl⟩
      cases hp : p b
      · have HF : Hid (R = bh p s (s.size - (j + 1))) := Lib.hid (by have := HS.out; rw [hp] at this; simp only [Bool.false_eq_true, if_false] at this; rw [this, HN'.out])
        go_wp2_with fail
        go_roundg (s.size - (j + 1))
        case measure => omega
        case rel => exact ⟨j + 1, rfl, h0, by go_num, rfl, HF⟩
      · have HF : Hid (R = n + 1) := Lib.hid (by have := HS.out; rw [hp] at this; simpa using this)
        go_wp2_with fail
        go_ret
        exact ⟨by rw [HF.out, ← HN.out]; exact retI (by omega), rfl⟩
    · obtain rfl : j = s.size := by omega
      have HF : Hid (R = 0) := Lib.hid (by rw [HJ.out, Nat.sub_self]; rfl)
      have jn : ¬ ((s.size : Int) < (s.size : Int)) := by omega
      go_wp2_with fail
      go_ret
      exact ⟨by rw [HF.out]; rfl, rfl⟩
theorem cells_any (s : ByteArray) (hs : s.size ≤ 1048576) (w : World) :
    Calls Tryd.prog 21 #[.string s, .func (.func 22) #[] #[]] w fun e w' => e = .returned (.int .i64 (lnf s s.size : Int)) ∧ w = w' := by
  have h := behindE_any s hs w
  rw [bh_end] at h
  exact h
theorem cseen_any (s : ByteArray) (hs : s.size ≤ 1048576) (w : World) :
    Calls Tryd.prog 21 #[.string s, .func (.func 25) #[] #[]] w fun e w' => e = .returned (.int .i64 (tr s 0 s.size : Int)) ∧ w = w' := by
  have h := behindS_any s hs w
  rw [bh_tr] at h
  exact h
set_option maxRecDepth 100000 in
theorem cwidth_any (s : ByteArray) (w : World) (hs : s.size ≤ 1048576) (ht : Tabs w) : Calls Tryd.prog 8 #[.string s] w fun e w' => e = .returned (.int .i64 (ct s 0 : Int)) ∧ Below w.heap.size w w' := by
  have HC := Lib.hid (count_any s w ht (by unfold maxLen; omega))
  clear ht
  go_enter Tryd.func8, Tryd.ntmps8
  go_wp2_with fail
  refine HC.out.mono ?_
  rintro e w1 ⟨rfl, n, rfl⟩
  go_wp2_with fail
  go_ret
  exact ⟨rfl, Below.ofDrewN _ _⟩
set_option maxRecDepth 100000 in
theorem clast_any (s : ByteArray) (c : Nat) (w : World) (hs : s.size ≤ 1048576) (hc : c ≤ 10000000) (ht : Tabs w) : Calls Tryd.prog 10 #[.string s, .int .i64 (c : Int)] w fun e w' => e = .returned (.int .i64 (lcol s c : Int)) ∧ Below w.heap.size w w' := by
  have HB := Lib.hid (cells_any s hs w)
  obtain ⟨p, hp⟩ : ∃ p, p = lnf s s.size := ⟨_, rfl⟩
  have hle : p ≤ s.size := by rw [hp]; exact lnf_le _ _
  have HW := Lib.hid (cwidth_any (s.extract p s.size) w (by rw [size_ext s p _ (Nat.le_refl _)]; omega) ht)
  have hct : ct (s.extract p s.size) 0 ≤ s.size := by
    rw [ct_tail s hle]
    have := ct_le s s.size p (by omega)
    omega
  obtain ⟨C, hC⟩ : ∃ C, C = ct (s.extract p s.size) 0 := ⟨_, rfl⟩
  rw [← hC] at HW hct
  have HV : Hid (lcol s c = if p = 0 then c + C else C) := Lib.hid (by rw [hC, ct_tail s hle]; unfold lcol; rw [← hp]; split; (rename_i h; rw [h]); rfl)
  rw [← hp] at HB
  clear hp hC ht
  by_cases h0 : 0 < p
  · have g0 : decide ((0 : Int) < (p : Int)) = true := by simpa using h0
    have HF : Hid (lcol s c = C) := Lib.hid (by rw [HV.out, if_neg (by omega)])
    go_enter Tryd.func10, Tryd.ntmps10
    go_wp2_with fail
    refine HB.out.mono ?_
    rintro e w1 ⟨rfl, rfl⟩
    go_wp2_with fail
    refine HW.out.mono ?_
    rintro e w2 ⟨rfl, K⟩
    go_wp2_with fail
    go_ret
    exact ⟨by rw [HF.out]; exact retI (by go_num), K⟩
  · obtain rfl : p = 0 := by omega
    have HF : Hid (lcol s c = c + C) := Lib.hid (by rw [HV.out, if_pos rfl])
    rw [show s.extract 0 s.size = s by apply ByteArray.ext; simp] at HW
    go_enter Tryd.func10, Tryd.ntmps10
    go_wp2_with fail
    refine HB.out.mono ?_
    rintro e w1 ⟨rfl, rfl⟩
    go_wp2_with fail
    refine HW.out.mono ?_
    rintro e w2 ⟨rfl, K⟩
    go_wp2_with fail
    go_ret
    exact ⟨by rw [HF.out]; exact retI (by go_num), K⟩
set_option maxRecDepth 100000 in
theorem cindent_any (n : Int) (w : World) : Calls Tryd.prog 12 #[.int .i64 n] w fun e w' => e = .returned (.string (indt n)) ∧ Below w.heap.size w w' := by
  obtain ⟨M, hM⟩ : ∃ M, M = min n.toNat 20000 := ⟨_, rfl⟩
  obtain ⟨V, hV⟩ : ∃ V, V = blks M := ⟨_, rfl⟩
  have hI : indt n = V := by rw [hV, hM]; rfl
  rw [hI]
  have HR := Lib.hid (repeat_any M w (by omega))
  rw [← hV, show (M : Int) = min (max n 0) 20000 by omega] at HR
  clear hI hV hM
  go_enter Tryd.func12, Tryd.ntmps12
  go_wp2_with fail
  refine HR.out.mono ?_
  rintro e w1 ⟨rfl, K⟩
  go_wp2_with fail
  go_ret
  exact ⟨rfl, K⟩
set_option maxRecDepth 100000 in
theorem ctrim_any (s : ByteArray) (w : World) (hs : s.size ≤ 1048576) : Calls Tryd.prog 14 #[.string s] w fun e w' => e = .returned (.string (s.extract 0 (tr s 0 s.size))) ∧ Below w.heap.size w w' := by
  have HB := Lib.hid (cseen_any s hs w)
  obtain ⟨p, hp⟩ : ∃ p, p = tr s 0 s.size := ⟨_, rfl⟩
  have hle : p ≤ s.size := by rw [hp]; exact (tr_spec s 0 s.size).1
  rw [← hp] at HB ⊢
  have HC := Lib.hid (clone_any (s.extract 0 p) (by rw [size_ext s 0 _ hle]; omega) w)
  clear hp
  go_enter Tryd.func14, Tryd.ntmps14
  go_wp2_with fail
  refine HB.out.mono ?_
  rintro e w1 ⟨rfl, rfl⟩
  go_wp2_with fail
  refine HC.out.mono ?_
  rintro e w2 ⟨rfl, K⟩
  go_wp2_with fail
  go_ret
  exact ⟨rfl, K⟩
theorem preLays : Lays.n99 Tryd.prog repRen := { repLays with }
theorem pct_any (s : ByteArray) : Lib.hasPrefix s.data.toList [37] = (decide (0 < s.size) && decide (bt s 0 = 37)) := by
  obtain ⟨⟨l⟩⟩ := s
  cases l with
  | nil => rfl
  | cons x r =>
    show (((37 : UInt8) == x) && true) = (decide (0 < r.length + 1) && decide (bt _ 0 = 37))
    have h : bt ⟨⟨x :: r⟩⟩ 0 = (x.toNat : Int) := by
      unfold bt
      rw [dif_pos (by show 0 < r.length + 1; omega)]
      rfl
    rw [h, Bool.and_true, decide_eq_true (by omega), Bool.true_and]
    have e : ((37 : UInt8) = x) ↔ ((x.toNat : Int) = 37) := by
      constructor
      · intro h; rw [← h]; rfl
      · intro h; apply UInt8.toNat.inj; show 37 = x.toNat; omega
    by_cases hx : (37 : UInt8) = x
    · rw [decide_eq_true (e.1 hx), ← hx]; rfl
    · rw [decide_eq_false (fun h => hx (e.2 h))]; simpa using hx
theorem hasPct_any (s : ByteArray) (w : World) : Calls Tryd.prog 26 #[.string s, .string ⟨#[37]⟩] w fun e w' => e = .returned (.bool (decide (0 < s.size) && decide (bt s 0 = 37))) ∧ w = w' := by
  have h := Any.strings_HasPrefix preLays s ⟨#[37]⟩ w
  rw [show (⟨#[37]⟩ : ByteArray).data.toList = [37] by rfl, pct_any] at h
  exact h.mono fun e w' ⟨h1, h2⟩ => ⟨h1, h2.symm⟩
set_option maxRecDepth 100000 in
theorem cnote_any (s : ByteArray) (w : World) (hs : s.size ≤ 1048576) : Calls Tryd.prog 16 #[.string s] w fun e w' => e = .returned (.bool (ntb s)) ∧ Below w.heap.size w w' := by
  have H1 := Lib.hid (fun W => hasPct_any s W)
  have H2 := Lib.hid (fun W => cells_any s hs W)
  have H3 := Lib.hid (fun W => cseen_any s hs W)
  have HN : Hid (ntb s = ((decide (0 < s.size) && decide (bt s 0 = 37)) && (decide (lnf s s.size = 0) && decide (tr s 0 s.size = s.size)))) := Lib.hid (by
    unfold ntb
    cases decide (lnf s s.size = 0) <;> cases decide (0 < s.size) <;> cases decide (bt s 0 = 37) <;> cases decide (tr s 0 s.size = s.size) <;> rfl)
  obtain ⟨a, ha⟩ : ∃ a, a = (decide (0 < s.size) && decide (bt s 0 = 37)) := ⟨_, rfl⟩
  obtain ⟨p, hp⟩ : ∃ p, p = lnf s s.size := ⟨_, rfl⟩
  obtain ⟨q, hq⟩ : ∃ q, q = tr s 0 s.size := ⟨_, rfl⟩
  rw [← ha, ← hp, ← hq] at HN
  rw [← ha] at H1
  rw [← hp] at H2
  rw [← hq] at H3
  clear ha hp hq
  have hb : ∀ b : Bool, b = ntb s → Ending.returned (.bool b) = Ending.returned (.bool (ntb s)) := fun b h => by rw [h]
  have HB := Lib.hid hb
  clear hb
  cases a
  · have HF : Hid (false = ntb s) := Lib.hid (by rw [HN.out]; rfl)
    go_enter Tryd.func16, Tryd.ntmps16
    go_wp2_with fail
    refine (H1.out _).mono ?_
    rintro e w1 ⟨rfl, rfl⟩
    go_wp2_with fail
    go_ret
    exact ⟨HB.out _ HF.out, Below.refl _ _⟩
  · by_cases h0 : p = 0
    · subst h0
      by_cases h1 : q = s.size
      · subst h1
        have HF : Hid (true = ntb s) := Lib.hid (by rw [HN.out]; simp)
        go_enter Tryd.func16, Tryd.ntmps16
        go_wp2_with fail
        refine (H1.out _).mono ?_
        rintro e w1 ⟨rfl, rfl⟩
        go_wp2_with fail
        refine (H2.out _).mono ?_
        rintro e w1 ⟨rfl, rfl⟩
        go_wp2_with fail
        refine (H3.out _).mono ?_
        rintro e w1 ⟨rfl, rfl⟩
        go_wp2_with fail
        go_ret
        exact ⟨HB.out _ HF.out, Below.refl _ _⟩
      · have g1 : ((q : Int) == (s.size : Int)) = false := beq_false_of_ne (by omega)
        have HF : Hid (false = ntb s) := Lib.hid (by rw [HN.out, decide_eq_false h1]; rfl)
        go_enter Tryd.func16, Tryd.ntmps16
        go_wp2_with fail
        refine (H1.out _).mono ?_
        rintro e w1 ⟨rfl, rfl⟩
        go_wp2_with fail
        refine (H2.out _).mono ?_
        rintro e w1 ⟨rfl, rfl⟩
        go_wp2_with fail
        refine (H3.out _).mono ?_
        rintro e w1 ⟨rfl, rfl⟩
        go_wp2_with fail
        go_ret
        exact ⟨HB.out _ HF.out, Below.refl _ _⟩
    · have g1 : ((p : Int) == 0) = false := beq_false_of_ne (by omega)
      have HF : Hid (false = ntb s) := Lib.hid (by rw [HN.out, decide_eq_false h0]; rfl)
      go_enter Tryd.func16, Tryd.ntmps16
      go_wp2_with fail
      refine (H1.out _).mono ?_
      rintro e w1 ⟨rfl, rfl⟩
      go_wp2_with fail
      refine (H2.out _).mono ?_
      rintro e w1 ⟨rfl, rfl⟩
      go_wp2_with fail
      go_ret
      exact ⟨HB.out _ HF.out, Below.refl _ _⟩
theorem cellI : CellI Tabs where
  keep := fun h hb => h.below hb
  width := fun s w hs ht => cwidth_any s w hs ht
  last := fun s c w hs hc ht => clast_any s c w hs hc ht
  indent := fun n w _ => cindent_any n w
  trim := fun s w hs _ => ctrim_any s w hs
  note := fun s w hs _ => cnote_any s w hs
end Go.Proofs.YtjenofochgcjmaaDoor
