/-
  Quoted texts that are built piece by piece: what each piece says, whatever stands ahead and behind; and reading a row of integers that the call itself made.
-/
import Derived.Test.YtnejkdaiopjchaaDoorLitForms
namespace Go.Proofs.YtnejkdaiopjchaaDoor
open Go.RowKit Go.PlainAid

/-- All of X is read as L, whatever stands behind. -/
def Rd (X : ByteArray) (L : List Int) : Prop := ∀ Y, Qm (X ++ Y) 34 (qi (X ++ Y) 34 0) L X.size
theorem rd_start : Rd ⟨#[]⟩ [] := fun _ => Qm.start _ _
/-- A piece says c. -/
def Says (p : ByteArray) (c : Int) : Prop := 0 ≤ c ∧ 0 < p.size ∧ ∀ X Y, cell1 (X ++ p ++ Y) 34 X.size = c ∧ step1 (X ++ p ++ Y) X.size = p.size
theorem Rd.snoc {X p : ByteArray} {L : List Int} {c : Int} (h : Rd X L) (hp : Says p c) : Rd (X ++ p) (L ++ [c]) := fun Y => by
  obtain ⟨h0, h1, h2⟩ := hp
  obtain ⟨e1, e2⟩ := h2 X Y
  have hx := h (p ++ Y)
  rw [← ByteArray.append_assoc] at hx
  have := hx.go (by rw [ByteArray.size_append, ByteArray.size_append]; omega) (by rw [e1]; omega)
  rw [e1, e2] at this
  rw [ByteArray.size_append]
  exact this
theorem bt_mid {X p Y : ByteArray} {i : Nat} (h : i < p.size) : bt (X ++ p ++ Y) (X.size + i) = bt p i := by
  rw [ByteArray.append_assoc, bt_app_r, bt_app_l _ _ _ h]
theorem says_esc {p : ByteArray} {c : Nat} {n : Nat} (hn : p.size = n) (h1 : 1 ≤ n) (hb : bt p 0 = 92) (h : ∀ X Y, esc (X ++ p ++ Y) X.size = ((c : Int), n)) : Says p c := by
  refine ⟨by omega, by omega, fun X Y => ?_⟩
  have hb' : bt (X ++ p ++ Y) X.size = 92 := by
    have := bt_mid (X := X) (p := p) (Y := Y) (i := 0) (by omega)
    rw [Nat.add_zero] at this
    rw [this, hb]
  unfold cell1 step1
  rw [if_pos hb', if_pos hb', h X Y]
  exact ⟨rfl, by simp only; omega⟩
theorem says_self {c : Int} (hp : isPt c = true) (h32 : 32 ≤ c) (h34 : c ≠ 34) (h92 : c ≠ 92) : Says (Utf8.encode c) c := by
  obtain ⟨r1, r2, r3, r4⟩ := reads_enc hp
  have hl := lenOf_pos c
  refine ⟨by omega, by omega, fun X Y => ?_⟩
  have hn := nc_app_r X (Utf8.encode c ++ Y) 0
  have hn2 := nl_app_r X (Utf8.encode c ++ Y) 0
  rw [nc_app_l Y (by omega), r2, ← ByteArray.append_assoc, Nat.add_zero] at hn
  rw [nl_app_l Y (by omega), r3, ← ByteArray.append_assoc, Nat.add_zero] at hn2
  have b1 : bt (X ++ Utf8.encode c ++ Y) X.size ≠ 92 := fun h => by
    have hlt : X.size < (X ++ Utf8.encode c ++ Y).size := bt_lt (by omega)
    have := (nc_ascii hlt (by omega)).1
    rw [hn, h] at this
    exact h92 this
  unfold cell1 step1
  rw [if_neg b1, if_neg b1, hn, hn2, if_neg (by omega), r1]
  exact ⟨rfl, rfl⟩
theorem says_hex2 {H : ByteArray} {c : Nat} (h : HexIs c 2 H) (hc : c < 256) : Says ({ data := #[92, 120] } ++ H) c := by
  have hA : ({ data := #[92, 120] } : ByteArray).size = 2 := rfl
  have hz : ({ data := #[92, 120] } ++ H).size = 4 := by rw [ByteArray.size_append, hA, h.1]
  have l : ∀ i, i < 2 → bt ({ data := #[92, 120] } ++ H) i = bt { data := #[92, 120] } i := fun i hi => bt_app_l _ _ _ (by omega)
  refine says_esc hz (by omega) (by rw [l 0 (by omega)]; rfl) (fun X Y => ?_)
  refine esc_hex2 ?_ ?_ (fun i hi => ?_) hc
  · have := bt_mid (X := X) (p := { data := #[92, 120] } ++ H) (Y := Y) (i := 0) (by omega)
    rw [Nat.add_zero] at this
    rw [this, l 0 (by omega)]; rfl
  · rw [bt_mid (by omega), l 1 (by omega)]; rfl
  · rw [Nat.add_assoc, bt_mid (by omega), show 2 + i = ({ data := #[92, 120] } : ByteArray).size + i by rw [hA], bt_app_r, h.2 i hi]
theorem says_oct {O : ByteArray} {c : Nat} (h : OctIs c 3 O) (hc : c < 512) : Says ({ data := #[92] } ++ O) c := by
  have hA : ({ data := #[92] } : ByteArray).size = 1 := rfl
  have hz : ({ data := #[92] } ++ O).size = 4 := by rw [ByteArray.size_append, hA, h.1]
  have l : bt ({ data := #[92] } ++ O) 0 = 92 := by rw [bt_app_l _ _ _ (by omega)]; rfl
  refine says_esc hz (by omega) l (fun X Y => ?_)
  refine esc_oct ?_ (fun i hi => ?_) hc
  · have := bt_mid (X := X) (p := { data := #[92] } ++ O) (Y := Y) (i := 0) (by omega)
    rw [Nat.add_zero] at this
    rw [this, l]
  · rw [Nat.add_assoc, bt_mid (by omega), show 1 + i = ({ data := #[92] } : ByteArray).size + i by rw [hA], bt_app_r, h.2 i hi]
theorem says_hex6 {H : ByteArray} {c : Nat} (h : HexIs c 6 H) (hp : isPt (c : Int) = true) : Says ({ data := #[92, 120, 123] } ++ H ++ { data := #[125] }) c := by
  have hA : ({ data := #[92, 120, 123] } : ByteArray).size = 3 := rfl
  have hAH : ({ data := #[92, 120, 123] } ++ H).size = 9 := by rw [ByteArray.size_append, hA, h.1]
  have hz : ({ data := #[92, 120, 123] } ++ H ++ { data := #[125] }).size = 10 := by rw [ByteArray.size_append, hAH]; rfl
  have l : ∀ i, i < 3 → bt ({ data := #[92, 120, 123] } ++ H ++ { data := #[125] }) i = bt { data := #[92, 120, 123] } i := fun i hi => by
    rw [bt_app_l _ _ _ (by omega), bt_app_l _ _ _ (by omega)]
  refine says_esc hz (by omega) (by rw [l 0 (by omega)]; rfl) (fun X Y => ?_)
  refine esc_hex6 ?_ ?_ ?_ (fun i hi => ?_) ?_ hp
  · have := bt_mid (X := X) (p := { data := #[92, 120, 123] } ++ H ++ { data := #[125] }) (Y := Y) (i := 0) (by omega)
    rw [Nat.add_zero] at this
    rw [this, l 0 (by omega)]; rfl
  · rw [bt_mid (by omega), l 1 (by omega)]; rfl
  · rw [bt_mid (by omega), l 2 (by omega)]; rfl
  · rw [Nat.add_assoc, bt_mid (by omega), bt_app_l _ _ _ (by omega), show 3 + i = ({ data := #[92, 120, 123] } : ByteArray).size + i by rw [hA], bt_app_r, h.2 i hi]
  · rw [bt_mid (by omega)]
    have := bt_app_r ({ data := #[92, 120, 123] } ++ H) { data := #[125] } 0
    rw [hAH] at this
    rw [show 9 = 9 + 0 by omega, this]; rfl
/-- THE WHOLE: between two quotes all is read. -/
theorem quo_of {X : ByteArray} {L : List Int} (h : Rd X L) : quo ({ data := #[34] } ++ X ++ { data := #[34] }) = some L := by
  have hq : qi X 34 0 = some L := by
    have := h ByteArray.empty
    rw [ByteArray.append_empty] at this
    exact this.fin (by omega)
  have hA : ({ data := #[34] } : ByteArray).size = 1 := rfl
  have hz : ({ data := #[34] } ++ X ++ { data := #[34] }).size = X.size + 2 := by rw [ByteArray.size_append, ByteArray.size_append, hA]; omega
  have b0 : bt ({ data := #[34] } ++ X ++ { data := #[34] }) 0 = 34 := by
    rw [bt_app_l _ _ _ (by rw [ByteArray.size_append, hA]; omega), bt_app_l _ _ _ (by omega)]; rfl
  have b1 : bt ({ data := #[34] } ++ X ++ { data := #[34] }) (({ data := #[34] } ++ X ++ { data := #[34] }).size - 1) = 34 := by
    have := bt_app_r ({ data := #[34] } ++ X) { data := #[34] } 0
    rw [hz, show X.size + 2 - 1 = ({ data := #[34] } ++ X).size + 0 by rw [ByteArray.size_append, hA]; omega, this]; rfl
  have he : ({ data := #[34] } ++ X ++ { data := #[34] }).extract 1 (({ data := #[34] } ++ X ++ { data := #[34] }).size - 1) = X := by
    apply ByteArray.ext
    apply Array.toList_inj.1
    rw [Lib.extract_data, hz]
    simp only [ByteArray.toList_data_append]
    have hl : X.data.toList.length = X.size := by rw [Array.length_toList]; rfl
    show (([34] ++ X.data.toList ++ [34]).drop 1).take (X.size + 2 - 1 - 1) = _
    rw [show X.size + 2 - 1 - 1 = X.data.toList.length by rw [hl]; omega]
    simp
  have hv : vd ({ data := #[34] } ++ X ++ { data := #[34] }) 0 = true := by
    rw [vd_btw (by omega) (by omega) (by omega), he]
    exact qi_vd X.size 0 (by omega) (by omega) (by rw [hq]; rfl)
  have hb : btw ({ data := #[34] } ++ X ++ { data := #[34] }) = true := by
    unfold btw
    rw [b0, b1, hz, decide_eq_true (by omega)]
    rfl
  unfold quo
  rw [if_pos ⟨hv, hb⟩, he, b0, hq]
/-- Reading a row of integers that the call made. -/
theorem own_read {w : World} {B : Nat} {v : Value} {n : Nat} {L : List Int} (h : w.ownsRow B 3 1 v n (L.map (Value.int .i64))) :
    ∃ a cap, v = .slice a n cap ∧ (0 < n → ∃ g, a = some ⟨g, 0, none⟩ ∧ g < w.heap.size ∧ ∀ j, j < n → w.cell? ⟨g, j, none⟩ = some (.int .i64 (L.getD j 0))) := by
  obtain ⟨hlen, ⟨rfl, rfl⟩ | ⟨g, cap, cur, rfl, -, hblk, -, -, -, htk⟩⟩ := h
  · exact ⟨none, 0, rfl, fun h => absurd h (Nat.not_lt_zero _)⟩
  · rw [List.length_map] at hlen
    refine ⟨_, _, rfl, fun _ => ⟨g, rfl, (Array.getElem?_eq_some_iff.1 hblk).1, fun j hj => ?_⟩⟩
    have h1 : (cur.toList.take (n * 1))[j]? = some (.int .i64 (L.getD j 0)) := by
      rw [htk, List.getElem?_map, List.getElem?_eq_getElem (by omega)]
      simp [List.getD, show j < L.length by omega]
    rw [List.getElem?_take_of_lt (by omega)] at h1
    simp only [World.cell?, hblk]
    simpa using h1
end Go.Proofs.YtnejkdaiopjchaaDoor
