/- Proved: the developers' kindOf, parent and values return what kindK, findK and the numbers of the words say. Conditions: for kindOf, the program's table of kinds is laid. · Proved: what is known while the developers' Read goes on: the reader's block, its rows, its map of names; what each step does to them. Conditions: as each theorem states. -/
import Derived.Test.YtpaiapcnoifpmaaDoorRc2
import Derived.Test.YtpaiapcnoifpmaaDoorRb9
import Derived.Test.YtpaiapcnoifpmaaDoorTkH
import Derived.Deep.OwnRows
import Derived.Test.YtpaiapcnoifpmaaDoorRb11
namespace Go.Proofs.YtpaiapcnoifpmaaDoor
open Go.RowKit

/-- The program's table of the kinds' words. -/
def KindT (w : World) : Prop := w.cell? ⟨0, 0, none⟩ = some (.string ⟨#[102, 105, 120, 101, 100]⟩) ∧ w.cell? ⟨0, 1, none⟩ = some (.string ⟨#[116, 117, 114, 110, 120]⟩) ∧ w.cell? ⟨0, 2, none⟩ = some (.string ⟨#[116, 117, 114, 110, 121]⟩) ∧ w.cell? ⟨0, 3, none⟩ = some (.string ⟨#[116, 117, 114, 110, 122]⟩) ∧ w.cell? ⟨0, 4, none⟩ = some (.string ⟨#[115, 108, 105, 100, 101, 120]⟩) ∧ w.cell? ⟨0, 5, none⟩ = some (.string ⟨#[115, 108, 105, 100, 101, 121]⟩) ∧ w.cell? ⟨0, 6, none⟩ = some (.string ⟨#[115, 108, 105, 100, 101, 122]⟩)
theorem KindT.next {w w' : World} (h : KindT w) (hb : Below w.heap.size w w') : KindT w' := by
  have hl : 0 < w.heap.size := by
    rcases Nat.lt_or_ge 0 w.heap.size with h' | h'
    · exact h'
    · have h0 := h.1
      have e : w.heap[0]? = none := Array.getElem?_eq_none h'
      simp [World.cell?, e] at h0
  obtain ⟨h0, h1, h2, h3, h4, h5, h6⟩ := h
  exact ⟨(hb.cell (p := ⟨0, 0, none⟩) hl).trans h0, (hb.cell (p := ⟨0, 1, none⟩) hl).trans h1, (hb.cell (p := ⟨0, 2, none⟩) hl).trans h2, (hb.cell (p := ⟨0, 3, none⟩) hl).trans h3, (hb.cell (p := ⟨0, 4, none⟩) hl).trans h4, (hb.cell (p := ⟨0, 5, none⟩) hl).trans h5, (hb.cell (p := ⟨0, 6, none⟩) hl).trans h6⟩
set_option linter.unusedSimpArgs false in
set_option linter.unusedVariables false in
set_option maxRecDepth 100000 in
set_option maxHeartbeats 6400000 in
theorem sKindOf_any (b : ByteArray) (k : Int) (y : Bool) (w : World) (hT : KindT w) (hk : (if kindK b < 0 then 0 else kindK b) = k) (hy : decide (0 ≤ kindK b) = y) :
    Calls Tryd.prog 88 #[ .string b ] w fun e w' => e = .returned (.tuple #[.int .i64 k, .bool y]) ∧ w' = w := by
  have HK := Lib.hid hk
  have HY := Lib.hid hy
  obtain ⟨h0, h1, h2, h3, h4, h5, h6⟩ := hT
  clear hk hy
  go_enter Tryd.func88, Tryd.ntmps88
  go_wp2_with fail
  clear h0 h1 h2 h3 h4 h5 h6
  go_loop [7] (fun i => ∃ k : Nat, k ≤ 7 ∧ i = .int .i64 k ∧ ∀ t : Nat, t < k → kindB t ≠ b) (fun i => 7 - (intOf i).toNat)
  case atStart => exact ⟨0, by omega, rfl, fun t h => absurd h (Nat.not_lt_zero _)⟩
  case round =>
    obtain ⟨q, hq, rfl, hne⟩ := hrel
    have HNE := Lib.hid hne
    clear hne
    by_cases hlt : q < 7
    · have hix := kind_tab (q : Int) (by omega) (by omega)
      obtain ⟨nm, hnm⟩ : ∃ x, kindB q = x := ⟨_, rfl⟩
      have HNM := Lib.hid hnm
      rw [hnm] at hix
      clear hnm
      by_cases he : nm = b
      · have hs := same_word he
        have hkk := kind_at hlt HNE.out (HNM.out.trans he)
        have hx := HK.out
        have hz := HY.out
        rw [hkk, if_neg (by omega)] at hx
        rw [hkk, decide_eq_true (by omega)] at hz
        subst hx hz
        clear he hkk
        go_wp2_with fail
        go_ret2
        exact ⟨rfl, rfl⟩
      · have hs := other_word he
        have HE := Lib.hid he
        clear he
        go_wp2_with fail
        go_round
        case rel => exact ⟨q + 1, by omega, by go_num, fun t h => by rcases Nat.lt_or_ge t q with h3 | h3; exact HNE.out t h3; have e : t = q := (by omega); subst e; rw [HNM.out]; exact HE.out⟩
        case measure => simp [intOf]; omega
    · have hkk := kind_none (fun t h => HNE.out t (by omega))
      have hx := HK.out
      have hz := HY.out
      rw [hkk, if_pos (by decide)] at hx
      rw [hkk, decide_eq_false (by decide)] at hz
      subst hx hz
      clear hkk
      go_wp2_with fail
      go_ret2
      exact ⟨rfl, rfl⟩
/-- The numbers of the joints by their names. -/
def nameF (js : List JointD) : ByteArray → Option Value := fun b => if findK js b < 0 then none else some (.int .i64 (findK js b))
theorem nameF_hit {js : List JointD} {b : ByteArray} (h : ¬ findK js b < 0) : nameF js b = some (.int .i64 (findK js b)) := by unfold nameF; rw [if_neg h]
theorem nameF_miss {js : List JointD} {b : ByteArray} (h : findK js b < 0) : nameF js b = none := by unfold nameF; rw [if_pos h]
def parK (js : List JointD) (b : ByteArray) : Int := if b = worldB then -1 else if findK js b < 0 then 0 else findK js b
def parOk (js : List JointD) (b : ByteArray) : Bool := decide (b = worldB ∨ 0 ≤ findK js b)
set_option linter.unusedSimpArgs false in
set_option linter.unusedVariables false in
set_option maxRecDepth 100000 in
set_option maxHeartbeats 6400000 in
theorem sParent_any (R M : Nat) (js : List JointD) (b : ByteArray) (k : Int) (y : Bool) (w : World) (hR : w.cell? ⟨R, 2, none⟩ = some (.map (some M))) (hM : MapAt w M (nameF js)) (hk : parK js b = k) (hy : parOk js b = y) :
    Calls Tryd.prog 89 #[ .pointer (some ⟨R, 0, none⟩), .string b ] w fun e w' => e = .returned (.tuple #[.int .i64 k, .bool y]) ∧ w' = w := by
  have HK := Lib.hid hk
  have HY := Lib.hid hy
  have hw : worldB = ⟨#[119, 111, 114, 108, 100]⟩ := rfl
  have HW := Lib.hid hw
  clear hk hy hw
  by_cases hb : b = worldB
  · have hx := HK.out.symm.trans (by unfold parK; rw [if_pos hb])
    have hz := HY.out.symm.trans (by unfold parOk; rw [decide_eq_true (Or.inl hb)])
    subst hx hz
    have hs : (b.toList == [119, 111, 114, 108, 100]) = true := by have h := same_word (hb.trans HW.out); simpa using h
    clear hb
    go_enter Tryd.func89, Tryd.ntmps89
    go_wp2_with fail
    go_ret2
    exact ⟨rfl, rfl⟩
  · have hs : (b.toList == [119, 111, 114, 108, 100]) = false := by have h := other_word (fun h => hb (h.trans HW.out.symm)); simpa using h
    by_cases hf : findK js b < 0
    · have hx := HK.out.symm.trans (by unfold parK; rw [if_neg hb, if_pos hf])
      have hz := HY.out.symm.trans (by unfold parOk; rw [decide_eq_false (fun h => h.elim hb (fun h => by omega))])
      subst hx hz
      have hlk := map_miss sw_mapi sw_int0 hM (nameF_miss hf) true
      rw [if_pos rfl] at hlk
      clear hb hf hM
      go_enter Tryd.func89, Tryd.ntmps89
      go_wp2_with fail
      go_ret2
      exact ⟨rfl, rfl⟩
    · have hx := HK.out.symm.trans (by unfold parK; rw [if_neg hb, if_neg hf])
      have hz := HY.out.symm.trans (by unfold parOk; rw [decide_eq_true (Or.inr (by omega))])
      subst hz
      have hlk := map_hit sw_mapi hM (nameF_hit hf) true
      rw [if_pos rfl, ← hx] at hlk
      clear hb hf hM hx
      go_enter Tryd.func89, Tryd.ntmps89
      go_wp2_with fail
      go_ret2
      exact ⟨rfl, rfl⟩
/-- What values returns: the numbers of all words in a row of its own, or nothing. -/
def ValP (F : ByteArray → Option Int) (w : World) (l : List ByteArray) : Ending → World → Prop := fun e w' => (l.all fun s => outB (F s)) = false ∧ e = .returned (.tuple #[.slice none 0 0, .bool false]) ∧ Below w.heap.size w w' ∨
  (l.all fun s => outB (F s)) = true ∧ e = .returned (.tuple #[.slice (some ⟨w.heap.size, 0, none⟩) l.length l.length, .bool true]) ∧ w'.rowIs w.heap.size 2 l.length (fun j => .int .i64 (outI (F (l.getD j ⟨#[]⟩)))) ∧ Below w.heap.size w w'
def valF (F : ByteArray → Option Int) (l : List ByteArray) (k : Nat) : Nat → Value := fun j => .int .i64 (if j < k then outI (F (l.getD j ⟨#[]⟩)) else 0)
theorem valF_step (F : ByteArray → Option Int) (l : List ByteArray) {k : Nat} {s : ByteArray} (hk : k < l.length) (hs : l[k] = s) (j : Nat) : (if j = k then Value.int .i64 (outI (F s)) else valF F l k j) = valF F l (k + 1) j := by
  unfold valF
  by_cases h : j = k
  · subst h
    rw [if_pos rfl, if_pos (by omega), List.getD_eq_getElem?_getD, List.getElem?_eq_getElem hk, ← hs]; rfl
  · rw [if_neg h]
    by_cases h2 : j < k
    · rw [if_pos h2, if_pos (by omega)]
    · rw [if_neg h2, if_neg (by omega)]
set_option linter.unusedSimpArgs false in
set_option linter.unusedVariables false in
set_option maxRecDepth 100000 in
set_option maxHeartbeats 6400000 in
theorem sValuesN_any (u : Value) (l : List ByteArray) (w : World) (hu : RdT w u l) (hs : ∀ s ∈ l, s.size ≤ maxLen) :
    Calls Tryd.prog 90 #[ u, .func (.func 91) #[] #[] ] w (ValP (fun s => numS (bts s)) w l) := by
  have HU := Lib.hid hu
  have HSZ := Lib.hid hs
  obtain ⟨A, c, rfl, hl, hk⟩ := hu
  clear hk hs
  obtain ⟨i0, hi, hz0, hz1, hz2⟩ := info_parts info_i64
  have HI := Lib.hid hi
  have HZ0 := Lib.hid hz0
  have HZ1 := Lib.hid hz1
  have HZ2 := Lib.hid hz2
  have ROW := Lib.hid ((World.rowIs_made w (.int .i64 0) l.length 2).congr (g := valF (fun s => numS (bts s)) l 0) (fun j _ => by unfold valF; rw [if_neg (Nat.not_lt_zero _)]))
  have B0 := Lib.hid ((Below.refl w.heap.size w).alloc (Nat.le_refl _) (.cells (madeCells #[.int .i64 0] l.length) 2))
  clear hi hz0 hz1 hz2
  go_enter Tryd.func90, Tryd.ntmps90
  go_wp2_with (first | (with_reducible refine wpList_make_row _ rfl (.tmp 12) (.tmp 12) 116 rfl 2 i0 (.int .i64 0) under_i64s HI.out HZ0.out HZ1.out rfl .i64 .i64 l.length rfl rfl (by rw [HZ2.out]; omega) (by omega) ?_))
  obtain ⟨U, hU⟩ : ∃ U, w.alloc (.cells (madeCells #[.int .i64 0] l.length) 2) = U := ⟨_, rfl⟩
  rw [hU] at ROW B0 ⊢
  clear hU
  go_wp2_with fail
  go_loopw [16] (fun i wr => ∃ k : Nat, k ≤ l.length ∧ i = .int .i64 k ∧ (∀ t (h : t < l.length), t < k → outB (numS (bts l[t])) = true) ∧ wr.rowIs w.heap.size 2 l.length (valF (fun s => numS (bts s)) l k) ∧ Below w.heap.size w wr) (fun i _ => l.length - (intOf i).toNat)
  case atStart => exact ⟨0, Nat.zero_le _, rfl, fun t _ h => absurd h (Nat.not_lt_zero _), ROW.out, B0.out⟩
  case round =>
    obtain ⟨k, hkl, rfl, hok, hrow, hb⟩ := hrel
    have HOK := Lib.hid hok
    have HR := Lib.hid hrow
    have HB := Lib.hid hb
    have hrl := hrow.lt
    clear hok ROW B0
    by_cases hlt : k < l.length
    · obtain ⟨_, _, ea, _, hk⟩ := HU.out.below hb (Nat.le_refl _)
      injection ea with ea _ ec
      subst ea ec
      obtain ⟨g, o, rfl, hg, a0⟩ := hk k hlt
      have hsz0 := HSZ.out l[k] (List.getElem_mem hlt)
      obtain ⟨s, hse⟩ : ∃ s, l[k] = s := ⟨_, rfl⟩
      have HSE := Lib.hid hse
      rw [hse] at a0 hsz0
      have HS := Lib.hid (valF_step (fun s => numS (bts s)) l hlt hse)
      clear hse hk hb hrow
      go_wp2_with fail
      refine (tNumber_any s _ hsz0).mono ?_
      rintro e w1 ⟨rfl, hb1⟩
      obtain ⟨x, hx⟩ : ∃ x, outI (numS (bts s)) = x := ⟨_, rfl⟩
      rw [hx] at HS ⊢
      have hrow1 := HR.out.of_block (hb1.block _ hrl)
      have hB1 := bl_next hb1 HB.out
      have HB1 := Lib.hid hB1
      clear hx hb1
      cases hob : outB (numS (bts s)) with
      | false =>
        have hnf : (l.all fun s => outB (numS (bts s))) = false := by
          rw [List.all_eq_false]
          exact ⟨l[k], List.getElem_mem hlt, by rw [HSE.out, hob]; decide⟩
        have HNF := Lib.hid hnf
        clear hnf hob hrow1 hB1
        go_wp2_with fail
        go_ret2
        exact .inl ⟨HNF.out, rfl, HB1.out⟩
      | true =>
        have HOB := Lib.hid hob
        have w0 := hrow1.cell hlt
        have w2 := hrow1.frozen k
        have ROW2 := Lib.hid ((hrow1.set k (.int .i64 x)).congr (fun j _ => HS.out j))
        have B2 := Lib.hid (Below.setCell hB1 (p := ⟨w.heap.size, k, none⟩) (Nat.le_refl _) (.int .i64 x))
        clear hob hrow1 hB1
        go_wp2_with fail
        go_roundw
        case rel => exact ⟨k + 1, by omega, by go_num, fun t h ht => by rcases Nat.lt_or_ge t k with h3 | h3; exact HOK.out t h h3; have e : t = k := (by omega); subst e; rw [HSE.out]; exact HOB.out, ROW2.out, B2.out⟩
        case measure => simp [intOf]; omega
    · have hke : k = l.length := by omega
      subst hke
      have hnt : (l.all fun s => outB (numS (bts s))) = true := by
        rw [List.all_eq_true]
        intro s hs
        obtain ⟨t, ht, rfl⟩ := List.getElem_of_mem hs
        exact HOK.out t ht ht
      have HNT := Lib.hid hnt
      have ROW2 := Lib.hid (hrow.congr (g := fun j => .int .i64 (outI (numS (bts (l.getD j ⟨#[]⟩))))) (fun j hj => by unfold valF; rw [if_pos hj]))
      clear hnt hrow hb
      go_wp2_with fail
      go_ret2
      exact .inr ⟨HNT.out, rfl, ROW2.out, HB.out⟩
set_option linter.unusedSimpArgs false in
set_option linter.unusedVariables false in
set_option maxRecDepth 100000 in
set_option maxHeartbeats 6400000 in
theorem sValuesI_any (u : Value) (l : List ByteArray) (w : World) (hu : RdT w u l) (hs : ∀ s ∈ l, s.size ≤ maxLen) :
    Calls Tryd.prog 90 #[ u, .func (.func 92) #[] #[] ] w (ValP (fun s => intS (bts s)) w l) := by
  have HU := Lib.hid hu
  have HSZ := Lib.hid hs
  obtain ⟨A, c, rfl, hl, hk⟩ := hu
  clear hk hs
  obtain ⟨i0, hi, hz0, hz1, hz2⟩ := info_parts info_i64
  have HI := Lib.hid hi
  have HZ0 := Lib.hid hz0
  have HZ1 := Lib.hid hz1
  have HZ2 := Lib.hid hz2
  have ROW := Lib.hid ((World.rowIs_made w (.int .i64 0) l.length 2).congr (g := valF (fun s => intS (bts s)) l 0) (fun j _ => by unfold valF; rw [if_neg (Nat.not_lt_zero _)]))
  have B0 := Lib.hid ((Below.refl w.heap.size w).alloc (Nat.le_refl _) (.cells (madeCells #[.int .i64 0] l.length) 2))
  clear hi hz0 hz1 hz2
  go_enter Tryd.func90, Tryd.ntmps90
  go_wp2_with (first | (with_reducible refine wpList_make_row _ rfl (.tmp 12) (.tmp 12) 116 rfl 2 i0 (.int .i64 0) under_i64s HI.out HZ0.out HZ1.out rfl .i64 .i64 l.length rfl rfl (by rw [HZ2.out]; omega) (by omega) ?_))
  obtain ⟨U, hU⟩ : ∃ U, w.alloc (.cells (madeCells #[.int .i64 0] l.length) 2) = U := ⟨_, rfl⟩
  rw [hU] at ROW B0 ⊢
  clear hU
  go_wp2_with fail
  go_loopw [16] (fun i wr => ∃ k : Nat, k ≤ l.length ∧ i = .int .i64 k ∧ (∀ t (h : t < l.length), t < k → outB (intS (bts l[t])) = true) ∧ wr.rowIs w.heap.size 2 l.length (valF (fun s => intS (bts s)) l k) ∧ Below w.heap.size w wr) (fun i _ => l.length - (intOf i).toNat)
  case atStart => exact ⟨0, Nat.zero_le _, rfl, fun t _ h => absurd h (Nat.not_lt_zero _), ROW.out, B0.out⟩
  case round =>
    obtain ⟨k, hkl, rfl, hok, hrow, hb⟩ := hrel
    have HOK := Lib.hid hok
    have HR := Lib.hid hrow
    have HB := Lib.hid hb
    have hrl := hrow.lt
    clear hok ROW B0
    by_cases hlt : k < l.length
    · obtain ⟨_, _, ea, _, hk⟩ := HU.out.below hb (Nat.le_refl _)
      injection ea with ea _ ec
      subst ea ec
      obtain ⟨g, o, rfl, hg, a0⟩ := hk k hlt
      have hsz0 := HSZ.out l[k] (List.getElem_mem hlt)
      obtain ⟨s, hse⟩ : ∃ s, l[k] = s := ⟨_, rfl⟩
      have HSE := Lib.hid hse
      rw [hse] at a0 hsz0
      have HS := Lib.hid (valF_step (fun s => intS (bts s)) l hlt hse)
      clear hse hk hb hrow
      go_wp2_with fail
      refine (tInteger_any s _ hsz0).mono ?_
      rintro e w1 ⟨rfl, hb1⟩
      obtain ⟨x, hx⟩ : ∃ x, outI (intS (bts s)) = x := ⟨_, rfl⟩
      rw [hx] at HS ⊢
      have hrow1 := HR.out.of_block (hb1.block _ hrl)
      have hB1 := bl_next hb1 HB.out
      have HB1 := Lib.hid hB1
      clear hx hb1
      cases hob : outB (intS (bts s)) with
      | false =>
        have hnf : (l.all fun s => outB (intS (bts s))) = false := by
          rw [List.all_eq_false]
          exact ⟨l[k], List.getElem_mem hlt, by rw [HSE.out, hob]; decide⟩
        have HNF := Lib.hid hnf
        clear hnf hob hrow1 hB1
        go_wp2_with fail
        go_ret2
        exact .inl ⟨HNF.out, rfl, HB1.out⟩
      | true =>
        have HOB := Lib.hid hob
        have w0 := hrow1.cell hlt
        have w2 := hrow1.frozen k
        have ROW2 := Lib.hid ((hrow1.set k (.int .i64 x)).congr (fun j _ => HS.out j))
        have B2 := Lib.hid (Below.setCell hB1 (p := ⟨w.heap.size, k, none⟩) (Nat.le_refl _) (.int .i64 x))
        clear hob hrow1 hB1
        go_wp2_with fail
        go_roundw
        case rel => exact ⟨k + 1, by omega, by go_num, fun t h ht => by rcases Nat.lt_or_ge t k with h3 | h3; exact HOK.out t h h3; have e : t = k := (by omega); subst e; rw [HSE.out]; exact HOB.out, ROW2.out, B2.out⟩
        case measure => simp [intOf]; omega
    · have hke : k = l.length := by omega
      subst hke
      have hnt : (l.all fun s => outB (intS (bts s))) = true := by
        rw [List.all_eq_true]
        intro s hs
        obtain ⟨t, ht, rfl⟩ := List.getElem_of_mem hs
        exact HOK.out t ht ht
      have HNT := Lib.hid hnt
      have ROW2 := Lib.hid (hrow.congr (g := fun j => .int .i64 (outI (intS (bts (l.getD j ⟨#[]⟩))))) (fun j hj => by unfold valF; rw [if_pos hj]))
      clear hnt hrow hb
      go_wp2_with fail
      go_ret2
      exact .inr ⟨HNT.out, rfl, ROW2.out, HB.out⟩
end Go.Proofs.YtpaiapcnoifpmaaDoor
namespace Go.Proofs.YtpaiapcnoifpmaaDoor
open Go.RowKit

theorem findK_snoc {js : List JointD} {j : JointD} (h : findK js j.name < 0) (b : ByteArray) : findK (js ++ [j]) b = if b = j.name then (js.length : Int) else findK js b := by
  unfold findK at h ⊢
  rw [List.findIdx?_append]
  by_cases hb : b = j.name
  · subst hb
    rw [if_pos rfl]
    cases hf : js.findIdx? (fun t => decide (t.name = j.name)) with
    | some i => rw [hf] at h; simp only at h; omega
    | none => simp [List.findIdx?_cons]
  · rw [if_neg hb]
    have hb2 : ¬ j.name = b := fun e => hb e.symm
    have e : [j].findIdx? (fun t => decide (t.name = b)) = none := by simp [List.findIdx?_cons, hb2]
    rw [e]
    simp
theorem nameF_snoc {js : List JointD} {j : JointD} (h : findK js j.name < 0) (b : ByteArray) : (if b = j.name then some (.int .i64 (js.length : Int)) else nameF js b) = nameF (js ++ [j]) b := by
  unfold nameF
  rw [findK_snoc h]
  by_cases hb : b = j.name
  · rw [if_pos hb, if_pos hb, if_neg (by omega)]
  · rw [if_neg hb, if_neg hb]
theorem findK_names {js ks : List JointD} (h : js.map (·.name) = ks.map (·.name)) (b : ByteArray) : findK js b = findK ks b := by
  unfold findK
  have e : ∀ l : List JointD, l.findIdx? (fun j => decide (j.name = b)) = (l.map (·.name)).findIdx? (fun x => decide (x = b)) := fun l => by rw [List.findIdx?_map]; rfl
  rw [e js, e ks, h]
theorem nameF_set (js : List JointD) (k : Nat) (a b c : Int) : nameF js = nameF (setL js k a b c) := by
  funext x
  unfold nameF
  rw [findK_names (js := setL js k a b c) (ks := js)]
  unfold setL
  rw [List.map_set]
  apply List.ext_getElem?
  intro i
  rw [List.getElem?_set]
  split
  · rename_i hi
    subst hi
    split
    · rename_i hl
      have hl2 : k < js.length := by simpa using hl
      rw [List.getElem?_map, List.getElem?_eq_getElem hl2, List.getD_eq_getElem?_getD, List.getElem?_eq_getElem hl2]
      rfl
    · rename_i hl
      rw [List.getElem?_eq_none (by omega)]
  · rfl
/-- What is known of the reader whose map lies at M, its block behind it, its rows behind that. -/
structure RS (M : Nat) (W : World) (f : ByteArray → Option Value) (js : List JointD) (ms : List MassD) (vj vm : Value) : Prop where
  blk : W.heap[M + 1]? = some (.cells #[vj, vm, .map (some M)] 98 (0, 0))
  map : MapAt W M f
  oj : W.ownsRow (M + 2) 60 12 vj js.length (jcells js)
  om : W.ownsRow (M + 2) 74 5 vm ms.length (mcells ms)
section
variable {M : Nat} {W V : World} {f g : ByteArray → Option Value} {js : List JointD} {ms : List MassD} {vj vm : Value}
theorem RS.lt (h : RS M W f js ms vj vm) : M + 1 < W.heap.size := lt_of_block h.blk
theorem RS.c0 (h : RS M W f js ms vj vm) : W.cell? ⟨M + 1, 0, none⟩ = some vj := cell_of_row W _ 0 _ _ _ h.blk
theorem RS.c1 (h : RS M W f js ms vj vm) : W.cell? ⟨M + 1, 1, none⟩ = some vm := cell_of_row W _ 1 _ _ _ h.blk
theorem RS.c2 (h : RS M W f js ms vj vm) : W.cell? ⟨M + 1, 2, none⟩ = some (.map (some M)) := cell_of_row W _ 2 _ _ _ h.blk
theorem RS.free (h : RS M W f js ms vj vm) (k : Nat) : W.frozen? ⟨M + 1, k, none⟩ = false := frozen_of_row W _ k _ _ h.blk
theorem RS.next (h : RS M W f js ms vj vm) (hb : Below W.heap.size W V) : RS M V f js ms vj vm :=
  ⟨(hb.block _ h.lt).trans h.blk, h.map.below hb h.map.lt, own_below h.oj hb, own_below h.om hb⟩
theorem RS.robD {n : Nat} (h : RS M W f js ms vj vm) (p : PJ n js ms) (hn : n ≤ 8796093022208) : RobD W vj vm js ms :=
  ⟨own_rdO h.oj, own_rdO h.om, Nat.le_trans p.lj hn, Nat.le_trans p.lm hn, p.ij, p.im⟩
theorem grown_setObj (W : World) (M : Nat) (o : Obj) : W.grownBy (setObj W M o) (some M) :=
  ⟨rfl, rfl, rfl, by rw [setObj_size]; exact Nat.le_refl _, fun k _ hk => setObj_other (fun e => hk (by rw [e]))⟩
theorem own_not {W : World} {B q : Nat} {e : TypeId} {size : Nat} {v : Value} {n : Nat} {xs : List Value} (h : W.ownsRow B e size v n xs) (hq : q < B) : v.ownBlock = none ∨ v.ownBlock ≠ some q := by
  cases hv : v.ownBlock with
  | none => exact .inl rfl
  | some k => right; intro e; injection e with e; subst e; have := (h.lt _ hv).1; omega
theorem RS.ins (h : RS M W f js ms vj vm) {o : Obj} (hm : MapAt (setObj W M o) M g) : RS M (setObj W M o) g js ms vj vm :=
  ⟨(setObj_other (by omega)).trans h.blk, hm, h.oj.kept (grown_setObj _ _ _) (own_not h.oj (by omega)), h.om.kept (grown_setObj _ _ _) (own_not h.om (by omega))⟩
theorem RS.pushJ {w1 : World} {v' : Value} {j : JointD} (h : RS M W f js ms vj vm) (hown : w1.ownsRow (M + 2) 60 12 v' (js.length + 1) (jcells js ++ (jointC j).toList)) (hg : W.grownBy w1 vj.ownBlock) :
    w1.heap[M + 1]? = some (.cells #[vj, vm, .map (some M)] 98 (0, 0)) ∧ RS M (w1.setCell ⟨M + 1, 0, none⟩ v') f (js ++ [j]) ms v' vm := by
  have hr : ∀ k, vj.ownBlock = some k → M + 2 ≤ k := fun k hk => (h.oj.lt k hk).1
  have hb : w1.heap[M + 1]? = some (.cells #[vj, vm, .map (some M)] 98 (0, 0)) := (hg.block _ h.lt (fun e => by have := hr _ e.symm; omega)).trans h.blk
  have om1 := h.om.kept hg (own_apart h.om h.oj (by decide))
  obtain ⟨es, c, hB, hi⟩ := h.map
  have hm : w1.heap[M]? = some (.map es c) := (hg.block _ (lt_of_block hB) (fun e => by have := hr _ e.symm; omega)).trans hB
  refine ⟨hb, heap_setCell_same w1 (M + 1) 0 _ _ v' hb, ⟨es, c, (heap_setCell_other _ _ _ _ (by dsimp only; omega)).trans hm, hi⟩, ?_, ownsRow_setCell_below om1 (by show M + 1 < _; omega) _⟩
  rw [List.length_append, jcells_snoc]
  exact ownsRow_setCell_below hown (by show M + 1 < _; omega) _
theorem RS.pushM {w1 : World} {v' : Value} {m : MassD} (h : RS M W f js ms vj vm) (hown : w1.ownsRow (M + 2) 74 5 v' (ms.length + 1) (mcells ms ++ (massC m).toList)) (hg : W.grownBy w1 vm.ownBlock) :
    w1.heap[M + 1]? = some (.cells #[vj, vm, .map (some M)] 98 (0, 0)) ∧ RS M (w1.setCell ⟨M + 1, 1, none⟩ v') f js (ms ++ [m]) vj v' := by
  have hr : ∀ k, vm.ownBlock = some k → M + 2 ≤ k := fun k hk => (h.om.lt k hk).1
  have hb : w1.heap[M + 1]? = some (.cells #[vj, vm, .map (some M)] 98 (0, 0)) := (hg.block _ h.lt (fun e => by have := hr _ e.symm; omega)).trans h.blk
  have oj1 := h.oj.kept hg (own_apart h.oj h.om (by decide))
  obtain ⟨es, c, hB, hi⟩ := h.map
  have hm : w1.heap[M]? = some (.map es c) := (hg.block _ (lt_of_block hB) (fun e => by have := hr _ e.symm; omega)).trans hB
  refine ⟨hb, heap_setCell_same w1 (M + 1) 1 _ _ v' hb, ⟨es, c, (heap_setCell_other _ _ _ _ (by dsimp only; omega)).trans hm, hi⟩, ownsRow_setCell_below oj1 (by show M + 1 < _; omega) _, ?_⟩
  rw [List.length_append, mcells_snoc]
  exact ownsRow_setCell_below hown (by show M + 1 < _; omega) _
theorem RS.set {g0 cap : Nat} (h : RS M W f js ms (.slice (some ⟨g0, 0, none⟩) js.length cap) vm) (k : Nat) (hk : k < js.length) (a b c : Int) :
    RS M (((W.setCell ⟨g0, k * 12 + 9, none⟩ (.int .i64 a)).setCell ⟨g0, k * 12 + 10, none⟩ (.int .i64 b)).setCell ⟨g0, k * 12 + 11, none⟩ (.int .i64 c)) f (setL js k a b c) ms (.slice (some ⟨g0, 0, none⟩) js.length cap) vm := by
  obtain ⟨o1, _⟩ := h.oj.stored (k * 12 + 9) (.int .i64 a)
  obtain ⟨o2, _⟩ := o1.stored (k * 12 + 10) (.int .i64 b)
  obtain ⟨o3, _⟩ := o2.stored (k * 12 + 11) (.int .i64 c)
  have hg : M + 2 ≤ g0 := (h.oj.lt g0 rfl).1
  have hne : vm.ownBlock = none ∨ vm.ownBlock ≠ some g0 := own_apart h.om h.oj (by decide)
  have e : jcells (setL js k a b c) = (((jcells js).set (k * 12 + 9) (.int .i64 a)).set (k * 12 + 10) (.int .i64 b)).set (k * 12 + 11) (.int .i64 c) := by
    rw [← jcells_set js k hk]
    unfold setL
    rw [List.getD_eq_getElem?_getD, List.getElem?_eq_getElem hk]
    rfl
  have hlen : (setL js k a b c).length = js.length := by unfold setL; rw [List.length_set]
  have far : ∀ (V : World) (q i : Nat) (u : Value), q ≠ g0 → (V.setCell ⟨g0, i, none⟩ u).heap[q]? = V.heap[q]? := fun V q i u hq => heap_setCell_other _ _ _ _ (by dsimp only; exact hq)
  obtain ⟨es, cl, hB, hi⟩ := h.map
  refine ⟨?_, ⟨es, cl, ?_, hi⟩, ?_, ?_⟩
  · exact (far _ _ _ _ (by omega)).trans ((far _ _ _ _ (by omega)).trans ((far _ _ _ _ (by omega)).trans h.blk))
  · exact (far _ _ _ _ (by omega)).trans ((far _ _ _ _ (by omega)).trans ((far _ _ _ _ (by omega)).trans hB))
  · rw [hlen, e]
    exact o3
  · exact ownsRow_setCell_other (ownsRow_setCell_other (ownsRow_setCell_other h.om (a := ⟨g0, k * 12 + 9, none⟩) (hne.elim (fun h => by rw [h]; exact fun e => by cases e) id) _) (a := ⟨g0, k * 12 + 10, none⟩) (hne.elim (fun h => by rw [h]; exact fun e => by cases e) id) _) (a := ⟨g0, k * 12 + 11, none⟩) (hne.elim (fun h => by rw [h]; exact fun e => by cases e) id) _
theorem RS.as (h : RS M W f js ms vj vm) (e : f = g) : RS M W g js ms vj vm := e ▸ h
end
/-- All but the reader's own blocks is as it was. -/
structure KeptR (M : Nat) (vj vm : Value) (W V : World) : Prop where
  os : V.os = W.os
  tape : V.tape = W.tape
  output : V.output = W.output
  size : W.heap.size ≤ V.heap.size
  block : ∀ k, k < W.heap.size → k ≠ M → k ≠ M + 1 → vj.ownBlock ≠ some k → vm.ownBlock ≠ some k → V.heap[k]? = W.heap[k]?
section
variable {M : Nat} {W V U : World} {f g : ByteArray → Option Value} {js : List JointD} {ms : List MassD} {vj vm : Value}
theorem KeptR.of_below (hb : Below W.heap.size W V) : KeptR M vj vm W V := ⟨hb.os, hb.tape, hb.output, hb.size, fun k hk _ _ _ _ => hb.block k hk⟩
theorem KeptR.next (h : KeptR M vj vm W V) (hb : Below V.heap.size V U) : KeptR M vj vm W U :=
  ⟨hb.os.trans h.os, hb.tape.trans h.tape, hb.output.trans h.output, Nat.le_trans h.size hb.size, fun k hk a b c d => (hb.block k (Nat.lt_of_lt_of_le hk h.size)).trans (h.block k hk a b c d)⟩
theorem KeptR.ins (h : KeptR M vj vm W V) (o : Obj) : KeptR M vj vm W (setObj V M o) :=
  ⟨h.os, h.tape, h.output, by rw [setObj_size]; exact h.size, fun k hk a b c d => (setObj_other a).trans (h.block k hk a b c d)⟩
theorem KeptR.grownJ (h : KeptR M vj vm W V) (hg : V.grownBy U vj.ownBlock) : KeptR M vj vm W U :=
  ⟨hg.os.trans h.os, hg.tape.trans h.tape, hg.output.trans h.output, Nat.le_trans h.size hg.size, fun k hk a b c d => (hg.block k (Nat.lt_of_lt_of_le hk h.size) (fun e => c e.symm)).trans (h.block k hk a b c d)⟩
theorem KeptR.grownM (h : KeptR M vj vm W V) (hg : V.grownBy U vm.ownBlock) : KeptR M vj vm W U :=
  ⟨hg.os.trans h.os, hg.tape.trans h.tape, hg.output.trans h.output, Nat.le_trans h.size hg.size, fun k hk a b c d => (hg.block k (Nat.lt_of_lt_of_le hk h.size) (fun e => d e.symm)).trans (h.block k hk a b c d)⟩
theorem KeptR.setR (h : KeptR M vj vm W V) (i : Nat) (u : Value) : KeptR M vj vm W (V.setCell ⟨M + 1, i, none⟩ u) :=
  ⟨h.os, h.tape, h.output, by rw [show (V.setCell ⟨M + 1, i, none⟩ u).heap.size = V.heap.size by simp [World.setCell]]; exact h.size, fun k hk a b c d => (heap_setCell_other _ _ _ _ (by dsimp only; exact b)).trans (h.block k hk a b c d)⟩
theorem KeptR.setJ {g0 n cap : Nat} (h : KeptR M (.slice (some ⟨g0, 0, none⟩) n cap) vm W V) (i : Nat) (u : Value) : KeptR M (.slice (some ⟨g0, 0, none⟩) n cap) vm W (V.setCell ⟨g0, i, none⟩ u) :=
  ⟨h.os, h.tape, h.output, by rw [show (V.setCell ⟨g0, i, none⟩ u).heap.size = V.heap.size by simp [World.setCell]]; exact h.size, fun k hk a b c d => (heap_setCell_other _ _ _ _ (by dsimp only; exact fun e => c (by rw [e]; rfl))).trans (h.block k hk a b c d)⟩
theorem KeptR.below (h : KeptR M vj vm W V) (r : RS M W f js ms vj vm) : Below M W V :=
  ⟨h.os, h.tape, h.output, h.size, fun k hk => h.block k (by have := r.lt; omega) (by omega) (by omega) ((own_not r.oj (by omega)).elim (fun e => by rw [e]; exact fun e => by cases e) id) ((own_not r.om (by omega)).elim (fun e => by rw [e]; exact fun e => by cases e) id)⟩
theorem KeptR.row (h : KeptR M vj vm W V) (r : RS M W f js ms vj vm) {q : Nat} {c : Array Value} {T : TypeId} {fz : Nat × Nat} (hq : W.heap[q]? = some (.cells c T fz)) (hj : 60 ≠ T) (hm : 74 ≠ T) (hM : M + 1 < q) : V.heap[q]? = some (.cells c T fz) :=
  (h.block q (lt_of_block hq) (by omega) (by omega) (own_ne r.oj hq hj) (own_ne r.om hq hm)).trans hq
end
end Go.Proofs.YtpaiapcnoifpmaaDoor
