/- Proved: the developers' appendNumbers and appendIntegers return the words so far and the words of the numbers, and turn nothing that lies below the base. Conditions: as each theorem states. -/
import Derived.Test.YtpaiapcnoifpmaaDoorTkI
import Derived.Test.YtpaiapcnoifpmaaDoorSy19
namespace Go.Proofs.YtpaiapcnoifpmaaDoor
open Go.RowKit

theorem int_dec {n j : Nat} (hn : n < 1000000000000000) (hj : DecLen n 1 j) : intS (decD j n) = some (n : Int) := by
  have h15 : j ≤ 15 := by
    rcases hj.2.2 with h | ⟨h1, h2⟩
    · omega
    · apply Decidable.byContradiction
      intro hc
      have h3 : (10 : Nat) ^ 15 ≤ 10 ^ (j - 1) := Nat.pow_le_pow_right (by decide) (by omega)
      have e : (10 : Nat) ^ 15 = 1000000000000000 := by decide
      omega
  have h1 : 1 ≤ j := hj.2.1
  have hv : n < 10 ^ j := hj.1
  clear hj
  obtain ⟨i, rfl⟩ : ∃ i, j = i + 1 := ⟨j - 1, by omega⟩
  obtain ⟨s1, s2⟩ := sgn_pos (decD_cons i n) (by omega)
  unfold intS
  rw [s1, s2]
  unfold intT
  rw [digS_nil (decD_dig _ _) (by rw [decD_len]; exact h15), decD_len, decD_val _ _ hv, if_neg (by simp only; omega)]
  rfl
theorem fi15_any (m : Nat) (w : World) (hm : m < 1000000000000000) (hT : Pow10 w) :
    Calls Tryd.prog 96 #[ .int .i64 (m : Int), .int .i64 10 ] w fun e w' => ∃ b : ByteArray, e = .returned (.string b) ∧ (intS (bts b) = some (m : Int) ∧ ArgT b) ∧ Below w.heap.size w w' := by
  refine (Tryd.strconv_FormatInt_10 (m : Int) (by omega) (by omega) w hT.here).mono ?_
  rintro e w' ⟨rfl, k, os, rfl⟩
  obtain ⟨j, h1, h2⟩ := dec_lib m
  have hb : bts (⟨(Lib.itoa (m : Int)).toArray⟩ : ByteArray) = decD j m := by
    rw [bts_mk, ← h2]
    unfold Lib.itoa
    rw [if_neg (by omega)]
    rfl
  exact ⟨_, rfl, ⟨by rw [hb]; exact int_dec hm h1, dec_arg h1 hb (by omega)⟩, Lib.below_grow _ _ (Nat.le_refl _) _ _⟩
theorem fmt_word (n : Int) (w : World) (hT : Pow10 w) (h1 : -2147483648 ≤ n) (h2 : n ≤ 2147483648) :
    Calls Tryd.prog 95 #[ .int .i64 n ] w fun e w' => ∃ b : ByteArray, e = .returned (.string b) ∧ (numS (bts b) = some n ∧ ArgT b) ∧ Below w.heap.size w w' := by
  refine (tFormat_any n w hT (by omega) (by omega)).mono ?_
  rintro e w' ⟨b, rfl, hb, hB⟩
  rw [show max (-2147483648) (min n 2147483648) = n by omega] at hb
  exact ⟨b, rfl, ⟨num_fmt h1 h2 hb, fmt_arg hb (by omega)⟩, hB⟩
/-- The powers of ten stay as long as what lies below B stays. -/
def PowB (B : Nat) (w : World) : Prop := Lib.TabBelow Tryd.prog B w "internal/strconv.uint64pow10" .u64 Lib.pow10Tab
theorem PowB.on {B : Nat} {w w' : World} (h : PowB B w) (hb : Below B w w') : PowB B w' := Lib.TabBelow.on h hb
theorem PowB.at {B : Nat} {w : World} (h : PowB B w) (hB : B ≤ w.heap.size) : Pow10 w := fun W hW => h W (hW.mono hB)
theorem OwnT.snoc {B : Nat} {W : World} {v : Value} {xs : List ByteArray} {b : ByteArray} (h : W.ownsRow B 9 1 v (xs.length + 1) (xs.map .string ++ [.string b])) : OwnT B W v (xs ++ [b]) := by
  unfold OwnT
  rw [List.length_append, List.map_append]
  exact h
/-- What is appended: a word for each number. -/
def AddN (B : Nat) (xs : List ByteArray) (zs : List Int) (p : ByteArray → Int → Prop) (w : World) : Ending → World → Prop := fun e w' =>
  ∃ (v : Value) (bs : List ByteArray), e = .returned v ∧ OwnT B w' v (xs ++ bs) ∧ bs.length = zs.length ∧ (∀ k (h : k < bs.length) (h' : k < zs.length), p bs[k] zs[k]) ∧ Below B w w'
def numW (b : ByteArray) (z : Int) : Prop := numS (bts b) = some z ∧ ArgT b
def intW (b : ByteArray) (z : Int) : Prop := intS (bts b) = some z ∧ ArgT b
theorem snoc_all {p : ByteArray → Int → Prop} {bs : List ByteArray} {zs : List Int} {b : ByteArray} {n : Nat} {z : Int} (h : ∀ k (h : k < bs.length) (h' : k < zs.length), p bs[k] zs[k]) (hn : bs.length = n) {hl : bs.length < zs.length} (hz : zs[bs.length] = z) (hb : p b z) :
    ∀ k (h : k < (bs ++ [b]).length) (h' : k < zs.length), p (bs ++ [b])[k] zs[k] := by
  intro k h1 h2
  rw [List.getElem_append]
  split
  · exact h _ _ _
  · have e : k = bs.length := by simp at h1; omega
    subst e
    rw [List.getElem_singleton, hz]
    exact hb
set_option linter.unusedSimpArgs false in
set_option linter.unusedVariables false in
set_option maxRecDepth 100000 in
set_option maxHeartbeats 6400000 in
theorem appNumbers_any (B : Nat) (v u : Value) (xs : List ByteArray) (zs : List Int) (w : World) (hT : PowB B w) (hB : B ≤ w.heap.size) (hv : OwnT B w v xs) (hu : w.ownsRow B 2 1 u zs.length (zs.map (Value.int .i64))) (hx : xs.length ≤ 1000) (hz : zs.length ≤ 1000) (hr : ∀ k (h : k < zs.length), -2147483648 ≤ zs[k] ∧ zs[k] ≤ 2147483648) :
    Calls Tryd.prog 80 #[ v, u ] w (AddN B xs zs numW w) := by
  obtain ⟨q0, k0, c0, rfl⟩ := own_slc hv
  obtain ⟨q1, k1, c1, rfl⟩ := own_slc hu
  obtain rfl := own_count hu
  have HT := Lib.hid hT
  have HV := Lib.hid hv
  have HU := Lib.hid hu
  have HR := Lib.hid hr
  obtain ⟨i0, hi, hz0, hz1, hz2⟩ := info_parts info_str
  have HI := Lib.hid hi
  have HZ0 := Lib.hid hz0
  have HZ1 := Lib.hid hz1
  have HZ2 := Lib.hid hz2
  clear hi hz0 hz1 hz2 hT hv hu hr
  unfold AddN
  go_enter Tryd.func80, Tryd.ntmps80
  go_wp2_with fail
  go_loopw [0, 9] (fun v i wr => ∃ bs : List ByteArray, i = .int .i64 bs.length ∧ bs.length ≤ zs.length ∧ OwnT B wr v (xs ++ bs) ∧ wr.ownsRow B 2 1 (.slice q1 zs.length c1) zs.length (zs.map (Value.int .i64)) ∧ (∀ k (h : k < bs.length) (h' : k < zs.length), numW bs[k] zs[k]) ∧ Below B w wr) (fun _ i _ => zs.length - (intOf i).toNat)
  case atStart => exact ⟨[], rfl, Nat.zero_le _, by rw [List.append_nil]; exact HV.out, HU.out, fun k h => absurd h (by simp), Below.refl _ _⟩
  case round =>
    obtain ⟨bs, rfl, hkl, hown, hnum, hok, hb⟩ := hrel
    obtain ⟨q5, k5, c5, rfl⟩ := own_slc hown
    have HOK := Lib.hid hok
    have HO := Lib.hid hown
    have HN := Lib.hid hnum
    have HB := Lib.hid hb
    clear hown hok hb
    by_cases hlt : bs.length < zs.length
    · obtain ⟨g, cap, e1⟩ := own_form hnum (by omega)
      injection e1 with e1 _ e2
      subst e1 e2
      have ec := hnum.cellAt bs.length (by simpa using hlt)
      have hsz := HB.out.size
      obtain ⟨z, hze⟩ : ∃ z, zs[bs.length] = z := ⟨_, rfl⟩
      have a0 : wr.cell? ⟨g, bs.length, none⟩ = some (.int .i64 z) := by rw [ec, ← hze]; simp [List.getElem?_eq_getElem hlt]
      have HZE := Lib.hid hze
      have hrz := HR.out bs.length hlt
      rw [hze] at hrz
      clear ec hnum hze
      obtain ⟨n, hn⟩ : ∃ n, bs.length = n := ⟨_, rfl⟩
      have HNE := Lib.hid hn
      rw [hn] at hlt hkl a0 ⊢
      clear hn
      go_wp2_with fail
      refine (fmt_word z _ ((HT.out.on HB.out).at (Nat.le_trans hB hsz)) hrz.1 hrz.2).mono ?_
      rintro e w1 ⟨b, rfl, hbz, hB1⟩
      have HBZ := Lib.hid hbz
      have HB1 := Lib.hid (HB.out.trans (hB1.mono (Nat.le_trans hB hsz)))
      have HOA := Lib.hid ((own_below HO.out hB1).alloc (.cells #[.string b] 9))
      have HNA := Lib.hid ((own_below HN.out hB1).alloc (.cells #[.string b] 9))
      have hs1 := HB1.out.size
      have hxl : (xs ++ bs).length ≤ 3000 := by rw [List.length_append, HNE.out]; omega
      clear hbz hB1
      go_wp2_with (first | (at_builtin; refine wpList_append_own _ rfl (.tmp 13) (.tmp 16) 41 rfl B 9 i0 (.string ⟨#[]⟩) 1 16 under_strs HI.out HZ0.out HZ1.out HZ2.out rfl (by decide) _ (xs ++ bs).length ((xs ++ bs).map .string) rfl HOA.out ⟨w1.heap.size, 0, none⟩ 1 1 [.string b] rfl rfl (news_int w1 _ _) (fun u hu => by simp at hu; subst hu; rfl) (by unfold maxLen; omega) (by omega) (by simp; omega) ?_) | fail)
      intro v' w2 hown' hgrow _
      have HBN := Lib.hid ((HB1.out.alloc (Nat.le_trans hB hs1) _).grown hgrow (by simp; omega) (fun j hj => (HO.out.lt j hj).1))
      have HN2 := Lib.hid (HNA.out.kept hgrow (own_apart HNA.out HOA.out (by decide)))
      have HO2 := Lib.hid (OwnT.snoc (xs := xs ++ bs) (b := b) (v := v') (W := w2) (B := B) (by simpa using hown'))
      rw [List.append_assoc] at HO2
      clear hown' hgrow hxl
      go_wp2_with fail
      go_roundw
      case rel => exact ⟨bs ++ [b], by rw [List.length_append, HNE.out]; go_num, by rw [List.length_append, HNE.out]; exact hlt, HO2.out, HN2.out, snoc_all HOK.out HNE.out HZE.out HBZ.out, HBN.out⟩
      case measure => simp [intOf]; omega
    · obtain ⟨n, hn⟩ : ∃ n, bs.length = n := ⟨_, rfl⟩
      have HNE := Lib.hid hn
      rw [hn] at hlt hkl ⊢
      clear hn
      go_wp2_with fail
      go_ret
      exact ⟨_, bs, rfl, HO.out, by rw [HNE.out]; omega, HOK.out, HB.out⟩
set_option linter.unusedSimpArgs false in
set_option linter.unusedVariables false in
set_option maxRecDepth 100000 in
set_option maxHeartbeats 6400000 in
theorem appIntegers_any (B : Nat) (v u : Value) (xs : List ByteArray) (zs : List Int) (w : World) (hT : PowB B w) (hB : B ≤ w.heap.size) (hv : OwnT B w v xs) (hu : w.ownsRow B 2 1 u zs.length (zs.map (Value.int .i64))) (hx : xs.length ≤ 1000) (hz : zs.length ≤ 1000) (hr : ∀ k (h : k < zs.length), 0 ≤ zs[k] ∧ zs[k] < 1000000000000000) :
    Calls Tryd.prog 81 #[ v, u ] w (AddN B xs zs intW w) := by
  obtain ⟨q0, k0, c0, rfl⟩ := own_slc hv
  obtain ⟨q1, k1, c1, rfl⟩ := own_slc hu
  obtain rfl := own_count hu
  have HT := Lib.hid hT
  have HV := Lib.hid hv
  have HU := Lib.hid hu
  have HR := Lib.hid hr
  obtain ⟨i0, hi, hz0, hz1, hz2⟩ := info_parts info_str
  have HI := Lib.hid hi
  have HZ0 := Lib.hid hz0
  have HZ1 := Lib.hid hz1
  have HZ2 := Lib.hid hz2
  clear hi hz0 hz1 hz2 hT hv hu hr
  unfold AddN
  go_enter Tryd.func81, Tryd.ntmps81
  go_wp2_with fail
  go_loopw [0, 9] (fun v i wr => ∃ bs : List ByteArray, i = .int .i64 bs.length ∧ bs.length ≤ zs.length ∧ OwnT B wr v (xs ++ bs) ∧ wr.ownsRow B 2 1 (.slice q1 zs.length c1) zs.length (zs.map (Value.int .i64)) ∧ (∀ k (h : k < bs.length) (h' : k < zs.length), intW bs[k] zs[k]) ∧ Below B w wr) (fun _ i _ => zs.length - (intOf i).toNat)
  case atStart => exact ⟨[], rfl, Nat.zero_le _, by rw [List.append_nil]; exact HV.out, HU.out, fun k h => absurd h (by simp), Below.refl _ _⟩
  case round =>
    obtain ⟨bs, rfl, hkl, hown, hnum, hok, hb⟩ := hrel
    obtain ⟨q5, k5, c5, rfl⟩ := own_slc hown
    have HOK := Lib.hid hok
    have HO := Lib.hid hown
    have HN := Lib.hid hnum
    have HB := Lib.hid hb
    clear hown hok hb
    by_cases hlt : bs.length < zs.length
    · obtain ⟨g, cap, e1⟩ := own_form hnum (by omega)
      injection e1 with e1 _ e2
      subst e1 e2
      have ec := hnum.cellAt bs.length (by simpa using hlt)
      have hsz := HB.out.size
      obtain ⟨z, hze⟩ : ∃ z, zs[bs.length] = z := ⟨_, rfl⟩
      have a0 : wr.cell? ⟨g, bs.length, none⟩ = some (.int .i64 z) := by rw [ec, ← hze]; simp [List.getElem?_eq_getElem hlt]
      have HZE := Lib.hid hze
      have hrz := HR.out bs.length hlt
      rw [hze] at hrz
      clear ec hnum hze
      obtain ⟨n, hn⟩ : ∃ n, bs.length = n := ⟨_, rfl⟩
      have HNE := Lib.hid hn
      rw [hn] at hlt hkl a0 ⊢
      clear hn
      go_wp2_with fail
      obtain ⟨m, rfl⟩ : ∃ m : Nat, z = m := ⟨z.toNat, by omega⟩
      refine (fi15_any m _ (by omega) ((HT.out.on HB.out).at (Nat.le_trans hB hsz))).mono ?_
      rintro e w1 ⟨b, rfl, hbz, hB1⟩
      have HBZ := Lib.hid hbz
      have HB1 := Lib.hid (HB.out.trans (hB1.mono (Nat.le_trans hB hsz)))
      have HOA := Lib.hid ((own_below HO.out hB1).alloc (.cells #[.string b] 9))
      have HNA := Lib.hid ((own_below HN.out hB1).alloc (.cells #[.string b] 9))
      have hs1 := HB1.out.size
      have hxl : (xs ++ bs).length ≤ 3000 := by rw [List.length_append, HNE.out]; omega
      clear hbz hB1
      go_wp2_with (first | (at_builtin; refine wpList_append_own _ rfl (.tmp 13) (.tmp 16) 41 rfl B 9 i0 (.string ⟨#[]⟩) 1 16 under_strs HI.out HZ0.out HZ1.out HZ2.out rfl (by decide) _ (xs ++ bs).length ((xs ++ bs).map .string) rfl HOA.out ⟨w1.heap.size, 0, none⟩ 1 1 [.string b] rfl rfl (news_int w1 _ _) (fun u hu => by simp at hu; subst hu; rfl) (by unfold maxLen; omega) (by omega) (by simp; omega) ?_) | fail)
      intro v' w2 hown' hgrow _
      have HBN := Lib.hid ((HB1.out.alloc (Nat.le_trans hB hs1) _).grown hgrow (by simp; omega) (fun j hj => (HO.out.lt j hj).1))
      have HN2 := Lib.hid (HNA.out.kept hgrow (own_apart HNA.out HOA.out (by decide)))
      have HO2 := Lib.hid (OwnT.snoc (xs := xs ++ bs) (b := b) (v := v') (W := w2) (B := B) (by simpa using hown'))
      rw [List.append_assoc] at HO2
      clear hown' hgrow hxl
      go_wp2_with fail
      go_roundw
      case rel => exact ⟨bs ++ [b], by rw [List.length_append, HNE.out]; go_num, by rw [List.length_append, HNE.out]; exact hlt, HO2.out, HN2.out, snoc_all HOK.out HNE.out HZE.out HBZ.out, HBN.out⟩
      case measure => simp [intOf]; omega
    · obtain ⟨n, hn⟩ : ∃ n, bs.length = n := ⟨_, rfl⟩
      have HNE := Lib.hid hn
      rw [hn] at hlt hkl ⊢
      clear hn
      go_wp2_with fail
      go_ret
      exact ⟨_, bs, rfl, HO.out, by rw [HNE.out]; omega, HOK.out, HB.out⟩
end Go.Proofs.YtpaiapcnoifpmaaDoor
