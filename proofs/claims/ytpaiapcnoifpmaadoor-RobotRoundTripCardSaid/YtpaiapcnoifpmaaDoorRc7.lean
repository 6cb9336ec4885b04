/- Proved: the developers' reading of a joint's words: it returns jerrK, and where that is 0 the reader holds one joint more. Conditions: as the theorem states. -/
import Derived.Test.YtpaiapcnoifpmaaDoorRc6
import Derived.Test.YtpaiapcnoifpmaaDoorTkH
namespace Go.Proofs.YtpaiapcnoifpmaaDoor
open Go.RowKit

theorem own_sln {w : World} {base : Nat} {e : TypeId} {size : Nat} {v : Value} {n : Nat} {xs : List Value} (h : w.ownsRow base e size v n xs) : ∃ q c, v = .slice q n c := by
  rcases h.2 with ⟨rfl, h0⟩ | ⟨g, cap, cur, rfl, _⟩
  · subst h0; exact ⟨none, 0, rfl⟩
  · exact ⟨_, _, rfl⟩
theorem arr_vec (a : Option Addr) (c : Nat) : ∀ w, (Instr.arrayAt 58 (.slice a 3 c)).run Tryd.prog w = .ok (.pointer a) w := fun w => by kernel_rfl
/-- What is known between the calls of a reader's method. -/
structure RW (M : Nat) (js : List JointD) (ms : List MassD) (vj vm va : Value) (a : List ByteArray) (w V : World) : Prop where
  rs : RS M V (nameF js) js ms vj vm
  kp : KeptR M vj vm w V
  rd : RdT V va a
  kt : KindT V
theorem RW.next {M : Nat} {js : List JointD} {ms : List MassD} {vj vm va : Value} {a : List ByteArray} {w V U : World} (h : RW M js ms vj vm va a w V) (hb : Below V.heap.size V U) : RW M js ms vj vm va a w U :=
  ⟨h.rs.next hb, h.kp.next hb, h.rd.below hb (Nat.le_refl _), h.kt.next hb⟩
theorem RW.start {M : Nat} {js : List JointD} {ms : List MassD} {vj vm va : Value} {a : List ByteArray} {w : World} (hr : RS M w (nameF js) js ms vj vm) (hd : RdT w va a) (hk : KindT w) : RW M js ms vj vm va a w w :=
  ⟨hr, .of_below (Below.refl _ _), hd, hk⟩
theorem RS.drew {M : Nat} {W : World} {f : ByteArray → Option Value} {js : List JointD} {ms : List MassD} {vj vm : Value} (h : RS M W f js ms vj vm) : RS M W.drew f js ms vj vm := h.next ((Below.refl _ _).drew)
theorem par_ok {js : List JointD} {b : ByteArray} (h : parOk js b = true) : parK js b = if b = worldB then -1 else findK js b := by
  have h2 := of_decide_eq_true h
  unfold parK
  by_cases hb : b = worldB
  · rw [if_pos hb, if_pos hb]
  · rw [if_neg hb, if_neg hb, if_neg (by have := h2.resolve_left hb; omega)]
/-- What reading a joint's words does. -/
def JP (M : Nat) (js : List JointD) (ms : List MassD) (vj vm : Value) (a : List ByteArray) (w : World) : Ending → World → Prop := fun e V =>
  e = .returned (.int .i64 (jerrK js a)) ∧ KeptR M vj vm w V ∧ (jerrK js a = 0 → ∃ v', RS M V (nameF (js ++ [readJ js a])) (js ++ [readJ js a]) ms v' vm)
set_option linter.unusedSimpArgs false in
set_option linter.unusedVariables false in
set_option maxRecDepth 100000 in
set_option maxHeartbeats 12800000 in
theorem sJoint_any (M : Nat) (js : List JointD) (ms : List MassD) (vj vm : Value) (a0 a1 a2 a3 a4 a5 a6 a7 a8 : ByteArray) (g o c : Nat) (w : World) (hT : KindT w) (hr : RS M w (nameF js) js ms vj vm) (hl : js.length ≤ 1000000000000) (hc : 9 ≤ c)
    (hu : RdT w (.slice (some ⟨g, o, none⟩) 9 c) [a0, a1, a2, a3, a4, a5, a6, a7, a8]) (hs : ∀ s ∈ [a0, a1, a2, a3, a4, a5, a6, a7, a8], s.size ≤ maxLen) :
    Calls Tryd.prog 76 #[ .pointer (some ⟨M + 1, 0, none⟩), .slice (some ⟨g, o, none⟩) 9 c ] w (JP M js ms vj vm [a0, a1, a2, a3, a4, a5, a6, a7, a8] w) := by
  have HS := Lib.hid hs
  have S0 := Lib.hid (RW.start hr hu hT)
  obtain ⟨qj, cj, rfl⟩ := own_sln hr.oj
  obtain ⟨qm, cm, rfl⟩ := own_sln hr.om
  unfold JP
  obtain ⟨E, hE⟩ : ∃ E, jerrK js [a0, a1, a2, a3, a4, a5, a6, a7, a8] = E := ⟨_, rfl⟩
  have HX : Hid ((if nameS (bts a0) = false ∨ 0 ≤ findK js a0 then 802 else if kindK a1 < 0 then 803 else if a2 ≠ worldB ∧ findK js a2 < 0 then 810 else if numOk [a3, a4, a5, a6, a7] = false ∨ outB (intS (bts a8)) = false then 809 else 0 : Int) = E) := Lib.hid hE
  obtain ⟨JJ, hJJ⟩ : ∃ JJ, readJ js [a0, a1, a2, a3, a4, a5, a6, a7, a8] = JJ := ⟨_, rfl⟩
  have HJ : Hid (JJ = ⟨a0, kindK a1, if a2 = worldB then -1 else findK js a2, outI (numS (bts a3)), outI (numS (bts a4)), outI (numS (bts a5)), outI (numS (bts a6)), outI (numS (bts a7)), outI (intS (bts a8)), 65536, 65536, 65536⟩) := Lib.hid hJJ.symm
  rw [hE, hJJ]
  have hMw := hr.lt
  have hgw := (hu.word_at 0 (by simp)).1
  have hm := hr.map
  have b2 := hr.c2
  have c0 : w.cell? ⟨g, o, none⟩ = some (.string a0) := (hu.word_at 0 (by simp)).2
  clear hE hJJ hr hu hs hT
  by_cases hf0 : 0 ≤ findK js a0
  · have hlk := map_hit sw_mapi hm (nameF_hit (by omega : ¬ findK js a0 < 0)) true
    rw [if_pos rfl] at hlk
    have hx := HX.out.symm.trans (if_pos (.inr hf0))
    subst hx
    clear hm hf0
    go_enter Tryd.func76, Tryd.ntmps76
    go_wp2_with fail
    go_ret
    exact ⟨rfl, S0.out.kp, fun h => absurd h (by decide)⟩
  have hlk := map_miss sw_mapi sw_int0 hm (nameF_miss (by omega : findK js a0 < 0)) true
  rw [if_pos rfl] at hlk
  have HF0 := Lib.hid (show findK js a0 < 0 by omega)
  clear hm hf0
  go_enter Tryd.func76, Tryd.ntmps76
  go_wp2_with fail
  refine (tName_any a0 _).mono ?_
  rintro e w1 ⟨rfl, hb⟩
  have S1 := Lib.hid (S0.out.next hb)
  have c1 : w1.cell? ⟨g, o + 1, none⟩ = some (.string a1) := (S1.out.rd.word_at 1 (by simp)).2
  clear hb hlk b2 c0 S0
  cases hnm : nameS (bts a0) with
  | false =>
    have hx := HX.out.symm.trans (if_pos (.inl hnm))
    subst hx
    go_wp2_with fail
    go_ret
    exact ⟨rfl, S1.out.kp, fun h => absurd h (by decide)⟩
  | true =>
    have HNM := Lib.hid hnm
    clear hnm
    go_wp2_with fail
    refine (sKindOf_any a1 _ _ _ S1.out.kt rfl rfl).mono ?_
    rintro e w2 ⟨rfl, rfl⟩
    have NN := Lib.hid (show ¬ (nameS (bts a0) = false ∨ 0 ≤ findK js a0) from fun h => h.elim (fun h => by rw [HNM.out] at h; cases h) (fun h => by have := HF0.out; omega))
    have HX2 := Lib.hid ((if_neg NN.out).symm.trans HX.out)
    clear HX NN HNM
    by_cases hk0 : kindK a1 < 0
    · have hx := HX2.out.symm.trans (if_pos hk0)
      subst hx
      rw [decide_eq_false (by omega : ¬ 0 ≤ kindK a1), if_pos hk0]
      clear hk0
      go_wp2_with fail
      go_ret
      first | exact ⟨rfl, S1.out.kp⟩ | exact ⟨rfl, S1.out.kp, fun h => absurd h (by decide)⟩
    rw [decide_eq_true (by omega : 0 ≤ kindK a1), if_neg hk0]
    have HX3 := Lib.hid ((if_neg hk0).symm.trans HX2.out)
    have hkr := kind_range a1
    obtain ⟨kk, hkk⟩ : ∃ x, kindK a1 = x := ⟨_, rfl⟩
    rw [hkk] at HJ hkr hk0 ⊢
    have c2 : w2.cell? ⟨g, o + 2, none⟩ = some (.string a2) := (S1.out.rd.word_at 2 (by simp)).2
    clear HX2 hkk c1
    obtain ⟨pk, hpk⟩ : ∃ x, parK js a2 = x := ⟨_, rfl⟩
    obtain ⟨py, hpy⟩ : ∃ x, parOk js a2 = x := ⟨_, rfl⟩
    have HPK := Lib.hid hpk
    have HPY := Lib.hid hpy
    go_wp2_with fail
    refine (sParent_any (M + 1) M js a2 pk py _ S1.out.rs.c2 S1.out.rs.map hpk hpy).mono ?_
    rintro e w3 ⟨rfl, rfl⟩
    clear hpk hpy c2
    cases py with
    | false =>
      have hx := HX3.out.symm.trans (if_pos (by
        have h2 : ¬ (a2 = worldB ∨ 0 ≤ findK js a2) := of_decide_eq_false HPY.out
        exact ⟨fun h => h2 (.inl h), by have : ¬ 0 ≤ findK js a2 := fun h => h2 (.inr h); omega⟩))
      subst hx
      go_wp2_with fail
      go_ret
      first | exact ⟨rfl, S1.out.kp⟩ | exact ⟨rfl, S1.out.kp, fun h => absurd h (by decide)⟩
    | true =>
      have HX4 := Lib.hid ((if_neg (by
        have h2 : a2 = worldB ∨ 0 ≤ findK js a2 := of_decide_eq_true HPY.out
        rintro ⟨h3, h4⟩
        exact h2.elim h3 (fun h => by omega))).symm.trans HX3.out)
      have hpe := par_ok HPY.out
      rw [HPK.out] at hpe
      rw [← hpe] at HJ
      have hfr := find_range js a2
      have hpr : -1 ≤ pk ∧ pk ≤ 1000000000000 := by
        rw [hpe]
        split <;> omega
      clear HX3 hpe HPK HPY hfr
      go_wp2_with fail
      refine (sValuesN_any _ [a3, a4, a5, a6, a7] _ (S1.out.rd.rest 3 5 (c - 3) (by simp) (by omega)) (fun s hs => HS.out s (by simp at hs ⊢; rcases hs with h | h | h | h | h <;> simp [h]))).mono ?_
      rintro e w4 (⟨hok, rfl, hb⟩ | ⟨hok, rfl, hrow, hb⟩)
      · have S2 := Lib.hid (S1.out.next hb)
        have c8 : w4.cell? ⟨g, o + 8, none⟩ = some (.string a8) := (S2.out.rd.word_at 8 (by simp)).2
        have hx := HX4.out.symm.trans (if_pos (.inl hok))
        subst hx
        clear hok hb
        go_wp2_with fail
        refine (tInteger_any a8 _ (HS.out a8 (by simp))).mono ?_
        rintro e w5 ⟨rfl, hb⟩
        have S3 := Lib.hid (S2.out.next hb)
        clear hb c8
        go_wp2_with fail
        go_ret
        first | exact ⟨rfl, S3.out.kp⟩ | exact ⟨rfl, S3.out.kp, fun h => absurd h (by decide)⟩
      · have S2 := Lib.hid (S1.out.next hb)
        have c8 : w4.cell? ⟨g, o + 8, none⟩ = some (.string a8) := (S2.out.rd.word_at 8 (by simp)).2
        have HOK := Lib.hid hok
        have hw4 := hb.size
        have hMr := S1.out.rs.lt
        obtain ⟨r, hre⟩ : ∃ r, w3.heap.size = r := ⟨_, rfl⟩
        rw [hre] at hrow hw4 hMr ⊢
        have HROW := Lib.hid hrow
        have hrlt := hrow.lt
        clear hok hb hrow hre S1
        go_wp2_with fail
        refine (tInteger_any a8 _ (HS.out a8 (by simp))).mono ?_
        rintro e V ⟨rfl, hb⟩
        have S3 := Lib.hid (S2.out.next hb)
        have hrow := HROW.out.of_block (hb.block _ hrlt)
        obtain ⟨wt, hwt⟩ : ∃ x, outI (intS (bts a8)) = x := ⟨_, rfl⟩
        have hin := int_in (bts a8)
        rw [hwt] at HJ hin ⊢
        clear hb c8 hwt S2
        cases hob : outB (intS (bts a8)) with
        | false =>
          have hx := HX4.out.symm.trans (if_pos (.inr hob))
          subst hx
          clear hob hrow
          go_wp2_with fail
          go_ret
          first | exact ⟨rfl, S3.out.kp⟩ | exact ⟨rfl, S3.out.kp, fun h => absurd h (by decide)⟩
        | true =>
          have hx := HX4.out.symm.trans (if_neg (by
            have h1 : numOk [a3, a4, a5, a6, a7] = true := HOK.out
            rw [h1, hob]; decide))
          subst hx
          clear hob HX4 HOK HROW
          obtain ⟨n0, hn0⟩ : ∃ x, outI (numS (bts a3)) = x := ⟨_, rfl⟩
          have e0 : V.cell? ⟨r, 0, none⟩ = some (.int .i64 n0) := by rw [← hn0]; exact hrow.cell (i := 0) (by simp)
          rw [hn0] at HJ
          obtain ⟨n1, hn1⟩ : ∃ x, outI (numS (bts a4)) = x := ⟨_, rfl⟩
          have e1 : V.cell? ⟨r, 1, none⟩ = some (.int .i64 n1) := by rw [← hn1]; exact hrow.cell (i := 1) (by simp)
          rw [hn1] at HJ
          obtain ⟨n2, hn2⟩ : ∃ x, outI (numS (bts a5)) = x := ⟨_, rfl⟩
          have e2 : V.cell? ⟨r, 2, none⟩ = some (.int .i64 n2) := by rw [← hn2]; exact hrow.cell (i := 2) (by simp)
          rw [hn2] at HJ
          obtain ⟨n3, hn3⟩ : ∃ x, outI (numS (bts a6)) = x := ⟨_, rfl⟩
          have e3 : V.cell? ⟨r, 3, none⟩ = some (.int .i64 n3) := by rw [← hn3]; exact hrow.cell (i := 3) (by simp)
          rw [hn3] at HJ
          obtain ⟨n4, hn4⟩ : ∃ x, outI (numS (bts a7)) = x := ⟨_, rfl⟩
          have e4 : V.cell? ⟨r, 4, none⟩ = some (.int .i64 n4) := by rw [← hn4]; exact hrow.cell (i := 4) (by simp)
          rw [hn4] at HJ
          have hrb : ∃ cs, V.heap[r]? = some (.cells cs 2 (0, 0)) := by obtain ⟨cs, h1, _⟩ := hrow; exact ⟨cs, h1⟩
          obtain ⟨cs, hcs⟩ := hrb
          clear hn0 hn1 hn2 hn3 hn4 hrow
          have SD := Lib.hid (show RS M V.drew (nameF js) js ms (.slice qj js.length cj) (.slice qm ms.length cm) from S3.out.rs.drew)
          have KD := Lib.hid (show KeptR M (.slice qj js.length cj) (.slice qm ms.length cm) w V.drew from S3.out.kp.next ((Below.refl _ _).drew))
          obtain ⟨ob, hup, hM2⟩ := map_ins sw_mapi SD.out.map (nameF_miss (show findK js a0 < 0 by have := HF0.out; omega)) (.int .i64 (js.length : Int))
          have hnm0 : JJ.name = a0 := by rw [HJ.out]
          have hns := nameF_snoc (js := js) (j := JJ) (by rw [hnm0]; exact HF0.out)
          simp only [hnm0] at hns
          have SE := Lib.hid (SD.out.ins (hM2.as hns))
          have HUP := Lib.hid hup
          have hsV := SD.out.lt
          clear hns hnm0 hM2
          have SB : Hid (∀ W : World, RS M W (nameF js) js ms (.slice qj js.length cj) (.slice qm ms.length cm) ∨ RS M W (nameF (js ++ [JJ])) js ms (.slice qj js.length cj) (.slice qm ms.length cm) → W.cell? ⟨M + 1, 2, none⟩ = some (.map (some M)) ∧ W.cell? ⟨M + 1, 0, none⟩ = some (.slice qj js.length cj)) := Lib.hid (fun W h => h.elim (fun h => ⟨h.c2, h.c0⟩) (fun h => ⟨h.c2, h.c0⟩))
          go_wp2_with fail
          refine wp_region_held_drew (S := (fun w1 => w1.cell? ⟨M + 1, 2, none⟩ = some (.map (some M)) ∧ w1.cell? ⟨M + 1, 0, none⟩ = some (.slice qj js.length cj))) (by kernel_rfl) ?_ (fun hHeld => ?_)
          focus (first | exact SB.out _ (.inl SD.out) | exact SB.out _ (.inr SE.out))
          refine wpAnyH_take (i := 0) (v := ?_) rfl (by kernel_rfl) (by kernel_rfl) (by kernel_rfl) (fun _ _ _ h => h) (Or.inl ⟨by rfl, ?_⟩) (by assumption) ?_; rotate_left; (focus (intro w hSw; (try dsimp only at hSw); go_simp; try with_reducible rfl)); (try simp only [Act.put, List.getElem_toArray, List.getElem_cons_succ, List.getElem_cons_zero, List.setIfInBounds_toArray, List.set_cons_zero, List.set_cons_succ])
          refine wpAnyH_take (i := 1) (v := ?_) rfl (by kernel_rfl) (by kernel_rfl) (by kernel_rfl) (fun _ _ _ h => h) (Or.inl ⟨by rfl, ?_⟩) (by assumption) ?_; rotate_left; (focus (intro w hSw; (try dsimp only at hSw); go_simp; try with_reducible rfl)); (try simp only [Act.put, List.getElem_toArray, List.getElem_cons_succ, List.getElem_cons_zero, List.setIfInBounds_toArray, List.set_cons_zero, List.set_cons_succ])
          refine wpAnyH_take (i := 2) (v := ?_) rfl (by kernel_rfl) (by kernel_rfl) (by kernel_rfl) (fun _ _ _ h => h) (Or.inl ⟨by rfl, ?_⟩) (by assumption) ?_; rotate_left; (focus (intro w hSw; (try dsimp only at hSw); go_simp; try with_reducible rfl)); (try simp only [Act.put, List.getElem_toArray, List.getElem_cons_succ, List.getElem_cons_zero, List.setIfInBounds_toArray, List.set_cons_zero, List.set_cons_succ])
          refine wpAnyH_take (i := 3) (v := ?_) rfl (by kernel_rfl) (by kernel_rfl) (by kernel_rfl) (fun _ _ _ h => h) (Or.inl ⟨by rfl, ?_⟩) (by assumption) ?_; rotate_left; (focus (intro w hSw; (try dsimp only at hSw); go_simp; try with_reducible rfl)); (try simp only [Act.put, List.getElem_toArray, List.getElem_cons_succ, List.getElem_cons_zero, List.setIfInBounds_toArray, List.set_cons_zero, List.set_cons_succ])
          refine wpAnyH_take (i := 4) (v := ?_) rfl (by kernel_rfl) (by kernel_rfl) (by kernel_rfl) (fun _ _ _ h => h) (Or.inl ⟨by rfl, ?_⟩) (by assumption) ?_; rotate_left; (focus (intro w hSw; (try dsimp only at hSw); go_simp; try with_reducible rfl)); (try simp only [Act.put, List.getElem_toArray, List.getElem_cons_succ, List.getElem_cons_zero, List.setIfInBounds_toArray, List.set_cons_zero, List.set_cons_succ])
          refine wpAnyH_take (i := 5) (v := ?_) rfl (by kernel_rfl) (by kernel_rfl) (by kernel_rfl) (fun _ _ _ h => h) (Or.inl ⟨by rfl, ?_⟩) (by assumption) ?_; rotate_left; (focus (intro w hSw; (try dsimp only at hSw); go_simp; try with_reducible rfl)); (try simp only [Act.put, List.getElem_toArray, List.getElem_cons_succ, List.getElem_cons_zero, List.setIfInBounds_toArray, List.set_cons_zero, List.set_cons_succ])
          refine wpAnyH_take (i := 6) (v := ?_) rfl (by kernel_rfl) (by kernel_rfl) (by kernel_rfl) (fun _ _ _ h => h) (Or.inl ⟨by rfl, ?_⟩) (by assumption) ?_; rotate_left; (focus (intro w hSw; (try dsimp only at hSw); go_simp; try with_reducible rfl)); (try simp only [Act.put, List.getElem_toArray, List.getElem_cons_succ, List.getElem_cons_zero, List.setIfInBounds_toArray, List.set_cons_zero, List.set_cons_succ])
          refine wpAnyH_take (i := 7) (v := ?_) rfl (by kernel_rfl) (by kernel_rfl) (by kernel_rfl) (fun _ _ _ h => h) (Or.inl ⟨by rfl, ?_⟩) (by assumption) ?_; rotate_left; (focus (intro w hSw; (try dsimp only at hSw); go_simp; try with_reducible rfl)); (try simp only [Act.put, List.getElem_toArray, List.getElem_cons_succ, List.getElem_cons_zero, List.setIfInBounds_toArray, List.set_cons_zero, List.set_cons_succ])
          refine wpAnyH_take (i := 8) (v := ?_) rfl (by kernel_rfl) (by kernel_rfl) (by kernel_rfl) (fun _ _ _ h => h) (Or.inl ⟨by rfl, ?_⟩) (by assumption) ?_; rotate_left; (focus (intro w hSw; (try dsimp only at hSw); go_simp; try with_reducible rfl)); (try simp only [Act.put, List.getElem_toArray, List.getElem_cons_succ, List.getElem_cons_zero, List.setIfInBounds_toArray, List.set_cons_zero, List.set_cons_succ])
          refine wpAnyH_take (i := 9) (v := ?_) rfl (by kernel_rfl) (by kernel_rfl) (by kernel_rfl) (fun _ _ _ h => h) (Or.inl ⟨by rfl, ?_⟩) (by assumption) ?_; rotate_left; (focus (intro w hSw; (try dsimp only at hSw); go_simp; try with_reducible rfl)); (try simp only [Act.put, List.getElem_toArray, List.getElem_cons_succ, List.getElem_cons_zero, List.setIfInBounds_toArray, List.set_cons_zero, List.set_cons_succ])
          refine wpAnyH_take (i := 10) (v := ?_) rfl (by kernel_rfl) (by kernel_rfl) (by kernel_rfl) (fun _ _ _ h => h) (Or.inl ⟨by rfl, ?_⟩) (by assumption) ?_; rotate_left; (focus (intro w hSw; (try dsimp only at hSw); go_simp; try with_reducible rfl)); (try simp only [Act.put, List.getElem_toArray, List.getElem_cons_succ, List.getElem_cons_zero, List.setIfInBounds_toArray, List.set_cons_zero, List.set_cons_succ])
          refine wpAnyH_ready (rs := [11]) (by kernel_rfl) (by simp) (AllReadyH.cons rfl (fun K hK => ?_) AllReadyH.nil); go_simp; refine hK.out _ _ ?_ (fun hHeld => ?_); (focus (first | exact SB.out _ (.inl SD.out) | exact SB.out _ (.inr SE.out))); clear hK K; (try simp only [Act.put, List.getElem_toArray, List.getElem_cons_succ, List.getElem_cons_zero, List.setIfInBounds_toArray, List.set_cons_zero, List.set_cons_succ])
          refine wpAnyH_done (by kernel_rfl) ?_ _
          go_wp2_with fail
          have KE := Lib.hid (KD.out.ins ob)
          have hrM : r ≠ M := by omega
          obtain ⟨X, hX⟩ : ∃ X, setObj V.drew M ob = X := ⟨_, rfl⟩
          have x0 : X.cell? ⟨r, 0, none⟩ = some (.int .i64 n0) := by rw [← hX]; exact (setObj_cell (by exact hrM)).trans e0
          have x1 : X.cell? ⟨r, 1, none⟩ = some (.int .i64 n1) := by rw [← hX]; exact (setObj_cell (by exact hrM)).trans e1
          have x2 : X.cell? ⟨r, 2, none⟩ = some (.int .i64 n2) := by rw [← hX]; exact (setObj_cell (by exact hrM)).trans e2
          have x3 : X.cell? ⟨r, 3, none⟩ = some (.int .i64 n3) := by rw [← hX]; exact (setObj_cell (by exact hrM)).trans e3
          have x4 : X.cell? ⟨r, 4, none⟩ = some (.int .i64 n4) := by rw [← hX]; exact (setObj_cell (by exact hrM)).trans e4
          have hcx : X.heap[r]? = some (.cells cs 2 (0, 0)) := by rw [← hX]; exact (setObj_other hrM).trans hcs
          have hcd : X.drew.heap[r]? = some (.cells cs 2 (0, 0)) := hcx
          rw [hX] at SE KE ⊢
          have hXs := SE.out.lt
          obtain ⟨i0, hi, hz0, hz1, hz2⟩ := info_parts info_jointA
          have HI := Lib.hid hi
          have HZ0 := Lib.hid hz0
          have HZ1 := Lib.hid hz1
          have HZ2 := Lib.hid hz2
          have HSJ : Hid (∀ W : World, W.heap[r]? = some (.cells cs 2 (0, 0)) → (fun w1 => w1.cell? ⟨r, 0, none⟩ = some (.int .i64 n0) ∧ w1.cell? ⟨r, 1, none⟩ = some (.int .i64 n1) ∧ w1.cell? ⟨r, 2, none⟩ = some (.int .i64 n2) ∧ w1.cell? ⟨r, 3, none⟩ = some (.int .i64 n3) ∧ w1.cell? ⟨r, 4, none⟩ = some (.int .i64 n4) ∧ w1.heap[r]? = some (.cells cs 2 (0, 0))) W) := Lib.hid (fun W h => ⟨(World.cell?_of_block (w := X) (h.trans hcx.symm)).trans x0, (World.cell?_of_block (w := X) (h.trans hcx.symm)).trans x1, (World.cell?_of_block (w := X) (h.trans hcx.symm)).trans x2, (World.cell?_of_block (w := X) (h.trans hcx.symm)).trans x3, (World.cell?_of_block (w := X) (h.trans hcx.symm)).trans x4, h⟩)
          have d0 := SE.out.c0
          have hav := arr_vec (some ⟨r, 0, none⟩) 5
          have HC6 := Lib.hid (show (X.alloc (.cells #[.string a0, .int .i64 kk, .int .i64 pk, .int .i64 n0, .int .i64 n1, .int .i64 n2, .int .i64 n3, .int .i64 n4, .int .i64 wt, .int .i64 65536, .int .i64 65536, .int .i64 65536] 60)).drew.heap[r]? = some (.cells cs 2 (0, 0)) from (Below.heap_alloc _ _ _ (lt_of_block hcx)).trans hcx)
          clear e0 e1 e2 e3 e4 hup HUP SB SD KD S3 hcs hX hi hz0 hz1 hz2 hrM
          refine wp_region_noPanic ?_
          refine wp_region_held_drew (S := (fun w1 => w1.cell? ⟨r, 0, none⟩ = some (.int .i64 n0) ∧ w1.cell? ⟨r, 1, none⟩ = some (.int .i64 n1) ∧ w1.cell? ⟨r, 2, none⟩ = some (.int .i64 n2) ∧ w1.cell? ⟨r, 3, none⟩ = some (.int .i64 n3) ∧ w1.cell? ⟨r, 4, none⟩ = some (.int .i64 n4) ∧ w1.heap[r]? = some (.cells cs 2 (0, 0)))) (by kernel_rfl) ?_ (fun hHeld => ?_)
          focus (with_reducible first | exact hHeld | exact HSJ.out _ hcd | exact HSJ.out _ HC6.out | exact HSJ.out _ HC7.out | exact HSJ.out _ HC8.out)
          refine wpAnyH_take (i := 0) (v := ?_) rfl (by kernel_rfl) (by kernel_rfl) (by kernel_rfl) (fun _ _ _ h => h) (Or.inl ⟨by rfl, ?_⟩) (by assumption) ?_; rotate_left; (focus (intro w hSw; (try dsimp only at hSw); go_simp; try with_reducible rfl)); (try simp only [Act.put, List.getElem_toArray, List.getElem_cons_succ, List.getElem_cons_zero, List.setIfInBounds_toArray, List.set_cons_zero, List.set_cons_succ])
          refine wpAnyH_take (i := 1) (v := ?_) rfl (by kernel_rfl) (by kernel_rfl) (by kernel_rfl) (fun _ _ _ h => h) (Or.inl ⟨by rfl, ?_⟩) (by assumption) ?_; rotate_left; (focus (intro w hSw; (try dsimp only at hSw); go_simp; try with_reducible rfl)); (try simp only [Act.put, List.getElem_toArray, List.getElem_cons_succ, List.getElem_cons_zero, List.setIfInBounds_toArray, List.set_cons_zero, List.set_cons_succ])
          refine wpAnyH_take (i := 2) (v := ?_) rfl (by kernel_rfl) (by kernel_rfl) (by kernel_rfl) (fun _ _ _ h => h) (Or.inl ⟨by rfl, ?_⟩) (by assumption) ?_; rotate_left; (focus (intro w hSw; (try dsimp only at hSw); go_simp; try with_reducible rfl)); (try simp only [Act.put, List.getElem_toArray, List.getElem_cons_succ, List.getElem_cons_zero, List.setIfInBounds_toArray, List.set_cons_zero, List.set_cons_succ])
          refine wpAnyH_take (i := 3) (v := ?_) rfl (by kernel_rfl) (by kernel_rfl) (by kernel_rfl) (fun _ _ _ h => h) (Or.inl ⟨by rfl, ?_⟩) (by assumption) ?_; rotate_left; (focus (intro w hSw; (try dsimp only at hSw); go_simp; try with_reducible rfl)); (try simp only [Act.put, List.getElem_toArray, List.getElem_cons_succ, List.getElem_cons_zero, List.setIfInBounds_toArray, List.set_cons_zero, List.set_cons_succ])
          refine wpAnyH_take (i := 4) (v := ?_) rfl (by kernel_rfl) (by kernel_rfl) (by kernel_rfl) (fun _ _ _ h => h) (Or.inl ⟨by rfl, ?_⟩) (by assumption) ?_; rotate_left; (focus (intro w hSw; (try dsimp only at hSw); go_simp; try with_reducible rfl)); (try simp only [Act.put, List.getElem_toArray, List.getElem_cons_succ, List.getElem_cons_zero, List.setIfInBounds_toArray, List.set_cons_zero, List.set_cons_succ])
          refine wpAnyH_take (i := 6) (v := ?_) rfl (by kernel_rfl) (by kernel_rfl) (by kernel_rfl) (fun _ _ _ h => h) (Or.inl ⟨by rfl, ?_⟩) (by assumption) ?_; rotate_left; (focus (intro w hSw; (try dsimp only at hSw); go_simp; try with_reducible rfl)); (try simp only [Act.put, List.getElem_toArray, List.getElem_cons_succ, List.getElem_cons_zero, List.setIfInBounds_toArray, List.set_cons_zero, List.set_cons_succ])
          refine wpAnyH_take (i := 7) (v := ?_) rfl (by kernel_rfl) (by kernel_rfl) (by kernel_rfl) (fun _ _ _ h => h) (Or.inl ⟨by rfl, ?_⟩) (by assumption) ?_; rotate_left; (focus (intro w hSw; (try dsimp only at hSw); go_simp; try with_reducible rfl)); (try simp only [Act.put, List.getElem_toArray, List.getElem_cons_succ, List.getElem_cons_zero, List.setIfInBounds_toArray, List.set_cons_zero, List.set_cons_succ])
          refine wpAnyH_take (i := 8) (v := ?_) rfl (by kernel_rfl) (by kernel_rfl) (by kernel_rfl) (fun _ _ _ h => h) (Or.inl ⟨by rfl, ?_⟩) (by assumption) ?_; rotate_left; (focus (intro w hSw; (try dsimp only at hSw); go_simp; try with_reducible rfl)); (try simp only [Act.put, List.getElem_toArray, List.getElem_cons_succ, List.getElem_cons_zero, List.setIfInBounds_toArray, List.set_cons_zero, List.set_cons_succ])
          refine wpAnyH_take (i := 9) (v := ?_) rfl (by kernel_rfl) (by kernel_rfl) (by kernel_rfl) (fun _ _ _ h => h) (Or.inl ⟨by rfl, ?_⟩) (by assumption) ?_; rotate_left; (focus (intro w hSw; (try dsimp only at hSw); go_simp; try with_reducible rfl)); (try simp only [Act.put, List.getElem_toArray, List.getElem_cons_succ, List.getElem_cons_zero, List.setIfInBounds_toArray, List.set_cons_zero, List.set_cons_succ])
          refine wpAnyH_take (i := 10) (v := ?_) rfl (by kernel_rfl) (by kernel_rfl) (by kernel_rfl) (fun _ _ _ h => h) (Or.inl ⟨by rfl, ?_⟩) (by assumption) ?_; rotate_left; (focus (intro w hSw; (try dsimp only at hSw); go_simp; try with_reducible rfl)); (try simp only [Act.put, List.getElem_toArray, List.getElem_cons_succ, List.getElem_cons_zero, List.setIfInBounds_toArray, List.set_cons_zero, List.set_cons_succ])
          refine wpAnyH_take (i := 11) (v := ?_) rfl (by kernel_rfl) (by kernel_rfl) (by kernel_rfl) (fun _ _ _ h => h) (Or.inl ⟨by rfl, ?_⟩) (by assumption) ?_; rotate_left; (focus (intro w hSw; (try dsimp only at hSw); go_simp; try with_reducible rfl)); (try simp only [Act.put, List.getElem_toArray, List.getElem_cons_succ, List.getElem_cons_zero, List.setIfInBounds_toArray, List.set_cons_zero, List.set_cons_succ])
          refine wpAnyH_take (i := 12) (v := ?_) rfl (by kernel_rfl) (by kernel_rfl) (by kernel_rfl) (fun _ _ _ h => h) (Or.inl ⟨by rfl, ?_⟩) (by assumption) ?_; rotate_left; (focus (intro w hSw; (try dsimp only at hSw); go_simp; try with_reducible rfl)); (try simp only [Act.put, List.getElem_toArray, List.getElem_cons_succ, List.getElem_cons_zero, List.setIfInBounds_toArray, List.set_cons_zero, List.set_cons_succ])
          refine wpAnyH_take (i := 13) (v := ?_) rfl (by kernel_rfl) (by kernel_rfl) (by kernel_rfl) (fun _ _ _ h => h) (Or.inl ⟨by rfl, ?_⟩) (by assumption) ?_; rotate_left; (focus (intro w hSw; (try dsimp only at hSw); go_simp; try with_reducible rfl)); (try simp only [Act.put, List.getElem_toArray, List.getElem_cons_succ, List.getElem_cons_zero, List.setIfInBounds_toArray, List.set_cons_zero, List.set_cons_succ])
          refine wpAnyH_take (i := 14) (v := ?_) rfl (by kernel_rfl) (by kernel_rfl) (by kernel_rfl) (fun _ _ _ h => h) (Or.inl ⟨by rfl, ?_⟩) (by assumption) ?_; rotate_left; (focus (intro w hSw; (try dsimp only at hSw); go_simp; try with_reducible rfl)); (try simp only [Act.put, List.getElem_toArray, List.getElem_cons_succ, List.getElem_cons_zero, List.setIfInBounds_toArray, List.set_cons_zero, List.set_cons_succ])
          refine wpAnyH_take (i := 15) (v := ?_) rfl (by kernel_rfl) (by kernel_rfl) (by kernel_rfl) (fun _ _ _ h => h) (Or.inl ⟨by rfl, ?_⟩) (by assumption) ?_; rotate_left; (focus (intro w hSw; (try dsimp only at hSw); go_simp; try with_reducible rfl)); (try simp only [Act.put, List.getElem_toArray, List.getElem_cons_succ, List.getElem_cons_zero, List.setIfInBounds_toArray, List.set_cons_zero, List.set_cons_succ])
          refine wpAnyH_take (i := 16) (v := ?_) rfl (by kernel_rfl) (by kernel_rfl) (by kernel_rfl) (fun _ _ _ h => h) (Or.inl ⟨by rfl, ?_⟩) (by assumption) ?_; rotate_left; (focus (intro w hSw; (try dsimp only at hSw); go_simp; try with_reducible rfl)); (try simp only [Act.put, List.getElem_toArray, List.getElem_cons_succ, List.getElem_cons_zero, List.setIfInBounds_toArray, List.set_cons_zero, List.set_cons_succ])
          refine wpAnyH_take (i := 17) (v := ?_) rfl (by kernel_rfl) (by kernel_rfl) (by kernel_rfl) (fun _ _ _ h => h) (Or.inl ⟨by rfl, ?_⟩) (by assumption) ?_; rotate_left; (focus (intro w hSw; (try dsimp only at hSw); go_simp; try with_reducible rfl)); (try simp only [Act.put, List.getElem_toArray, List.getElem_cons_succ, List.getElem_cons_zero, List.setIfInBounds_toArray, List.set_cons_zero, List.set_cons_succ])
          refine wpAnyH_take (i := 18) (v := ?_) rfl (by kernel_rfl) (by kernel_rfl) (by kernel_rfl) (fun _ _ _ h => h) (Or.inl ⟨by rfl, ?_⟩) (by assumption) ?_; rotate_left; (focus (intro w hSw; (try dsimp only at hSw); go_simp; try with_reducible rfl)); (try simp only [Act.put, List.getElem_toArray, List.getElem_cons_succ, List.getElem_cons_zero, List.setIfInBounds_toArray, List.set_cons_zero, List.set_cons_succ])
          refine wpAnyH_take (i := 19) (v := ?_) rfl (by kernel_rfl) (by kernel_rfl) (by kernel_rfl) (fun _ _ _ h => h) (Or.inl ⟨by rfl, ?_⟩) (by assumption) ?_; rotate_left; (focus (intro w hSw; (try dsimp only at hSw); go_simp; try with_reducible rfl)); (try simp only [Act.put, List.getElem_toArray, List.getElem_cons_succ, List.getElem_cons_zero, List.setIfInBounds_toArray, List.set_cons_zero, List.set_cons_succ])
          refine wpAnyH_take (i := 20) (v := ?_) rfl (by kernel_rfl) (by kernel_rfl) (by kernel_rfl) (fun _ _ _ h => h) (Or.inl ⟨by rfl, ?_⟩) (by assumption) ?_; rotate_left; (focus (intro w hSw; (try dsimp only at hSw); go_simp; try with_reducible rfl)); (try simp only [Act.put, List.getElem_toArray, List.getElem_cons_succ, List.getElem_cons_zero, List.setIfInBounds_toArray, List.set_cons_zero, List.set_cons_succ])
          refine wpAnyH_ready (rs := [5, 21]) (by kernel_rfl) (by simp) (AllReadyH.cons rfl (fun K hK => ?_) (AllReadyH.cons rfl (fun K hK => ?_) (AllReadyH.nil)))
          · go_simp; refine hK.out _ _ ?_ (fun hHeld => ?_); (focus (with_reducible first | exact hHeld | exact HSJ.out _ hcd | exact HSJ.out _ HC6.out | exact HSJ.out _ HC7.out | exact HSJ.out _ HC8.out)); clear hK K; (try simp only [Act.put, List.getElem_toArray, List.getElem_cons_succ, List.getElem_cons_zero, List.setIfInBounds_toArray, List.set_cons_zero, List.set_cons_succ])
            refine wpAnyH_ready (rs := [21]) (by kernel_rfl) (by simp) (AllReadyH.cons rfl (fun K hK => ?_) (AllReadyH.nil))
            go_simp; refine hK.out _ _ ?_ (fun hHeld => ?_); (focus (with_reducible first | exact hHeld | exact HSJ.out _ hcd | exact HSJ.out _ HC6.out | exact HSJ.out _ HC7.out | exact HSJ.out _ HC8.out)); clear hK K; (try simp only [Act.put, List.getElem_toArray, List.getElem_cons_succ, List.getElem_cons_zero, List.setIfInBounds_toArray, List.set_cons_zero, List.set_cons_succ])
            refine wpAnyH_ready (rs := [22]) (by kernel_rfl) (by simp) (AllReadyH.cons rfl (fun K hK => ?_) (AllReadyH.nil))
            rw [if_pos (by rfl)]; have SR7 := Lib.hid ((SE.out.next ((Below.refl _ _).alloc (Nat.le_refl _) (.cells #[.string a0, .int .i64 kk, .int .i64 pk, .int .i64 n0, .int .i64 n1, .int .i64 n2, .int .i64 n3, .int .i64 n4, .int .i64 wt, .int .i64 65536, .int .i64 65536, .int .i64 65536] 60))).drew); have KR7 := Lib.hid ((KE.out.next ((Below.refl _ _).alloc (Nat.le_refl _) (.cells #[.string a0, .int .i64 kk, .int .i64 pk, .int .i64 n0, .int .i64 n1, .int .i64 n2, .int .i64 n3, .int .i64 n4, .int .i64 wt, .int .i64 65536, .int .i64 65536, .int .i64 65536] 60))).next ((Below.refl _ _).drew)); refine wp_append_own _ (.tmp 87) (.tmp 103) 22 rfl (M + 2) 60 i0 (.agg (jointC zeroJ)) 12 104 under_joints HI.out HZ0.out HZ1.out HZ2.out rfl (by decide) _ js.length (jcells js) rfl SR7.out.oj ⟨X.heap.size, 0, none⟩ 1 1 (jointC (⟨a0, kk, pk, n0, n1, n2, n3, n4, wt, 65536, 65536, 65536⟩ : JointD)).toList rfl (by rfl) (show ∀ k u, (jointC (⟨a0, kk, pk, n0, n1, n2, n3, n4, wt, 65536, 65536, 65536⟩ : JointD)).toList[k]? = some u → (X.alloc (.cells #[.string a0, .int .i64 kk, .int .i64 pk, .int .i64 n0, .int .i64 n1, .int .i64 n2, .int .i64 n3, .int .i64 n4, .int .i64 wt, .int .i64 65536, .int .i64 65536, .int .i64 65536] 60)).drew.cell? ((⟨X.heap.size, 0, none⟩ : Addr).add k) = some u from joint_news X (⟨a0, kk, pk, n0, n1, n2, n3, n4, wt, 65536, 65536, 65536⟩ : JointD)) (joint_ones (⟨a0, kk, pk, n0, n1, n2, n3, n4, wt, 65536, 65536, 65536⟩ : JointD)) (by unfold maxLen; omega) (by omega) (by have := SR7.out.lt; omega) ?_; intro v2 w7 hown2 hgrow _; obtain ⟨g4, cap4, rfl⟩ := own_form hown2 (by omega); obtain ⟨hblk, hpush⟩ := SR7.out.pushJ hown2 hgrow; have HPU := Lib.hid hpush; have KP8 := Lib.hid ((KR7.out.grownJ hgrow).setR 0 (.slice (some ⟨g4, 0, none⟩) (js.length + 1) cap4)); have HC7 := Lib.hid ((hgrow.block r (lt_of_block HC6.out) (fun e => own_ne SR7.out.oj HC6.out (by decide) e.symm)).trans HC6.out); have HC8 := Lib.hid (show (w7.setCell ⟨M + 1, 0, none⟩ (.slice (some ⟨g4, 0, none⟩) (js.length + 1) cap4)).heap[r]? = _ from (heap_setCell_other _ _ _ _ (show r ≠ M + 1 by omega)).trans HC7.out); have c0 := cell_of_row w7 _ 0 _ _ _ hblk; have f0 := frozen_of_row w7 _ 0 _ _ hblk; clear hown2 hgrow hpush hblk; refine hK.out _ _ ?_ (fun hHeld => ?_); (focus (with_reducible first | exact hHeld | exact HSJ.out _ hcd | exact HSJ.out _ HC6.out | exact HSJ.out _ HC7.out | exact HSJ.out _ HC8.out)); clear hK K; (try simp only [Act.put, List.getElem_toArray, List.getElem_cons_succ, List.getElem_cons_zero, List.setIfInBounds_toArray, List.set_cons_zero, List.set_cons_succ])
            refine wpAnyH_take (i := 23) (v := ?_) rfl (by kernel_rfl) (by kernel_rfl) (by kernel_rfl) (fun _ _ _ h => h) (Or.inl ⟨by rfl, ?_⟩) (by assumption) ?_; rotate_left; (focus (intro w hSw; (try dsimp only at hSw); go_simp; try with_reducible rfl)); (try simp only [Act.put, List.getElem_toArray, List.getElem_cons_succ, List.getElem_cons_zero, List.setIfInBounds_toArray, List.set_cons_zero, List.set_cons_succ])
            refine wpAnyH_take (i := 24) (v := ?_) rfl (by kernel_rfl) (by kernel_rfl) (by kernel_rfl) (fun _ _ _ h => h) (Or.inl ⟨by rfl, ?_⟩) (by assumption) ?_; rotate_left; (focus (intro w hSw; (try dsimp only at hSw); go_simp; try with_reducible rfl)); (try simp only [Act.put, List.getElem_toArray, List.getElem_cons_succ, List.getElem_cons_zero, List.setIfInBounds_toArray, List.set_cons_zero, List.set_cons_succ])
            refine wpAnyH_take (i := 25) (v := ?_) rfl (by kernel_rfl) (by kernel_rfl) (by kernel_rfl) (fun _ _ _ h => h) (Or.inl ⟨by rfl, ?_⟩) (by assumption) ?_; rotate_left; (focus (intro w hSw; (try dsimp only at hSw); go_simp; try with_reducible rfl)); (try simp only [Act.put, List.getElem_toArray, List.getElem_cons_succ, List.getElem_cons_zero, List.setIfInBounds_toArray, List.set_cons_zero, List.set_cons_succ])
            refine wpAnyH_ready (rs := [26]) (by kernel_rfl) (by simp) (AllReadyH.cons rfl (fun K hK => ?_) (AllReadyH.nil))
            go_simp; refine hK.out _ _ ?_ (fun hHeld => ?_); (focus (with_reducible first | exact hHeld | exact HSJ.out _ hcd | exact HSJ.out _ HC6.out | exact HSJ.out _ HC7.out | exact HSJ.out _ HC8.out)); clear hK K; (try simp only [Act.put, List.getElem_toArray, List.getElem_cons_succ, List.getElem_cons_zero, List.setIfInBounds_toArray, List.set_cons_zero, List.set_cons_succ])
            refine wpAnyH_done (by kernel_rfl) ?_ _
            refine NoPanic.normal ?_
            go_wp2_with fail
            go_ret
            exact ⟨rfl, KP8.out, _, by have h := HPU.out; rw [← HJ.out] at h; exact h⟩
          · go_simp; refine hK.out _ _ ?_ (fun hHeld => ?_); (focus (with_reducible first | exact hHeld | exact HSJ.out _ hcd | exact HSJ.out _ HC6.out | exact HSJ.out _ HC7.out | exact HSJ.out _ HC8.out)); clear hK K; (try simp only [Act.put, List.getElem_toArray, List.getElem_cons_succ, List.getElem_cons_zero, List.setIfInBounds_toArray, List.set_cons_zero, List.set_cons_succ])
            refine wpAnyH_ready (rs := [5]) (by kernel_rfl) (by simp) (AllReadyH.cons rfl (fun K hK => ?_) (AllReadyH.nil))
            go_simp; refine hK.out _ _ ?_ (fun hHeld => ?_); (focus (with_reducible first | exact hHeld | exact HSJ.out _ hcd | exact HSJ.out _ HC6.out | exact HSJ.out _ HC7.out | exact HSJ.out _ HC8.out)); clear hK K; (try simp only [Act.put, List.getElem_toArray, List.getElem_cons_succ, List.getElem_cons_zero, List.setIfInBounds_toArray, List.set_cons_zero, List.set_cons_succ])
            refine wpAnyH_ready (rs := [22]) (by kernel_rfl) (by simp) (AllReadyH.cons rfl (fun K hK => ?_) (AllReadyH.nil))
            rw [if_pos (by rfl)]; have SR7 := Lib.hid ((SE.out.next ((Below.refl _ _).alloc (Nat.le_refl _) (.cells #[.string a0, .int .i64 kk, .int .i64 pk, .int .i64 n0, .int .i64 n1, .int .i64 n2, .int .i64 n3, .int .i64 n4, .int .i64 wt, .int .i64 65536, .int .i64 65536, .int .i64 65536] 60))).drew); have KR7 := Lib.hid ((KE.out.next ((Below.refl _ _).alloc (Nat.le_refl _) (.cells #[.string a0, .int .i64 kk, .int .i64 pk, .int .i64 n0, .int .i64 n1, .int .i64 n2, .int .i64 n3, .int .i64 n4, .int .i64 wt, .int .i64 65536, .int .i64 65536, .int .i64 65536] 60))).next ((Below.refl _ _).drew)); refine wp_append_own _ (.tmp 87) (.tmp 103) 22 rfl (M + 2) 60 i0 (.agg (jointC zeroJ)) 12 104 under_joints HI.out HZ0.out HZ1.out HZ2.out rfl (by decide) _ js.length (jcells js) rfl SR7.out.oj ⟨X.heap.size, 0, none⟩ 1 1 (jointC (⟨a0, kk, pk, n0, n1, n2, n3, n4, wt, 65536, 65536, 65536⟩ : JointD)).toList rfl (by rfl) (show ∀ k u, (jointC (⟨a0, kk, pk, n0, n1, n2, n3, n4, wt, 65536, 65536, 65536⟩ : JointD)).toList[k]? = some u → (X.alloc (.cells #[.string a0, .int .i64 kk, .int .i64 pk, .int .i64 n0, .int .i64 n1, .int .i64 n2, .int .i64 n3, .int .i64 n4, .int .i64 wt, .int .i64 65536, .int .i64 65536, .int .i64 65536] 60)).drew.cell? ((⟨X.heap.size, 0, none⟩ : Addr).add k) = some u from joint_news X (⟨a0, kk, pk, n0, n1, n2, n3, n4, wt, 65536, 65536, 65536⟩ : JointD)) (joint_ones (⟨a0, kk, pk, n0, n1, n2, n3, n4, wt, 65536, 65536, 65536⟩ : JointD)) (by unfold maxLen; omega) (by omega) (by have := SR7.out.lt; omega) ?_; intro v2 w7 hown2 hgrow _; obtain ⟨g4, cap4, rfl⟩ := own_form hown2 (by omega); obtain ⟨hblk, hpush⟩ := SR7.out.pushJ hown2 hgrow; have HPU := Lib.hid hpush; have KP8 := Lib.hid ((KR7.out.grownJ hgrow).setR 0 (.slice (some ⟨g4, 0, none⟩) (js.length + 1) cap4)); have HC7 := Lib.hid ((hgrow.block r (lt_of_block HC6.out) (fun e => own_ne SR7.out.oj HC6.out (by decide) e.symm)).trans HC6.out); have HC8 := Lib.hid (show (w7.setCell ⟨M + 1, 0, none⟩ (.slice (some ⟨g4, 0, none⟩) (js.length + 1) cap4)).heap[r]? = _ from (heap_setCell_other _ _ _ _ (show r ≠ M + 1 by omega)).trans HC7.out); have c0 := cell_of_row w7 _ 0 _ _ _ hblk; have f0 := frozen_of_row w7 _ 0 _ _ hblk; clear hown2 hgrow hpush hblk; refine hK.out _ _ ?_ (fun hHeld => ?_); (focus (with_reducible first | exact hHeld | exact HSJ.out _ hcd | exact HSJ.out _ HC6.out | exact HSJ.out _ HC7.out | exact HSJ.out _ HC8.out)); clear hK K; (try simp only [Act.put, List.getElem_toArray, List.getElem_cons_succ, List.getElem_cons_zero, List.setIfInBounds_toArray, List.set_cons_zero, List.set_cons_succ])
            refine wpAnyH_take (i := 23) (v := ?_) rfl (by kernel_rfl) (by kernel_rfl) (by kernel_rfl) (fun _ _ _ h => h) (Or.inl ⟨by rfl, ?_⟩) (by assumption) ?_; rotate_left; (focus (intro w hSw; (try dsimp only at hSw); go_simp; try with_reducible rfl)); (try simp only [Act.put, List.getElem_toArray, List.getElem_cons_succ, List.getElem_cons_zero, List.setIfInBounds_toArray, List.set_cons_zero, List.set_cons_succ])
            refine wpAnyH_take (i := 24) (v := ?_) rfl (by kernel_rfl) (by kernel_rfl) (by kernel_rfl) (fun _ _ _ h => h) (Or.inl ⟨by rfl, ?_⟩) (by assumption) ?_; rotate_left; (focus (intro w hSw; (try dsimp only at hSw); go_simp; try with_reducible rfl)); (try simp only [Act.put, List.getElem_toArray, List.getElem_cons_succ, List.getElem_cons_zero, List.setIfInBounds_toArray, List.set_cons_zero, List.set_cons_succ])
            refine wpAnyH_take (i := 25) (v := ?_) rfl (by kernel_rfl) (by kernel_rfl) (by kernel_rfl) (fun _ _ _ h => h) (Or.inl ⟨by rfl, ?_⟩) (by assumption) ?_; rotate_left; (focus (intro w hSw; (try dsimp only at hSw); go_simp; try with_reducible rfl)); (try simp only [Act.put, List.getElem_toArray, List.getElem_cons_succ, List.getElem_cons_zero, List.setIfInBounds_toArray, List.set_cons_zero, List.set_cons_succ])
            refine wpAnyH_ready (rs := [26]) (by kernel_rfl) (by simp) (AllReadyH.cons rfl (fun K hK => ?_) (AllReadyH.nil))
            go_simp; refine hK.out _ _ ?_ (fun hHeld => ?_); (focus (with_reducible first | exact hHeld | exact HSJ.out _ hcd | exact HSJ.out _ HC6.out | exact HSJ.out _ HC7.out | exact HSJ.out _ HC8.out)); clear hK K; (try simp only [Act.put, List.getElem_toArray, List.getElem_cons_succ, List.getElem_cons_zero, List.setIfInBounds_toArray, List.set_cons_zero, List.set_cons_succ])
            refine wpAnyH_done (by kernel_rfl) ?_ _
            refine NoPanic.normal ?_
            go_wp2_with fail
            go_ret
            exact ⟨rfl, KP8.out, _, by have h := HPU.out; rw [← HJ.out] at h; exact h⟩
end Go.Proofs.YtpaiapcnoifpmaaDoor
