/- Proved: the reference's functions of bytes and digits return what their namesakes in Tk1, Tk2 compute, and turn nothing. Conditions: as each theorem states. · Proved: the reference's Split returns the words that Tk1 names, in memory of its own, and turns nothing that was there before. Conditions: as each theorem states. · Proved: lists of words in memory, bytes that came in, and that Same returns true for equal lists of words. Conditions: as each theorem states. · Proved: the reference's functions of the words that begin a statement return what their namesakes here compute, and turn nothing. Conditions: as each theorem states. · Proved: plain facts on descriptions: the statements into which chapter 7 divides the words of a text, and the first of them that is not permitted. Conditions: as each theorem states. Nothing of the program is used but what Tk9 says of words. · Proved: lists of texts and of statements in memory, and that Same and SameStatements return true for equal ones. Conditions: as each theorem states. -/
import Derived.Test.YtpaiapcnoifpmaaDoorChecked
import Derived.Test.YtpaiapcnoifpmaaDoorTkP
import Derived.WalkKit
import Derived.Lib.Hide
import Derived.IntWalk
import Derived.OwnWalk
import Derived.OneCell
import Derived.Deep.QuietTactic
import Derived.BigQuiet
import Derived.Laws.OwnMore
namespace Go.Proofs.YtpaiapcnoifpmaaDoor
open Go.RowKit

theorem ret_i {k : IntKind} {a b : Int} (h : a = b) : Ending.returned (.int k a) = .returned (.int k b) := by rw [h]
theorem ret_bool' {a b : Bool} (h : a = b) : Ending.returned (.bool a) = .returned (.bool b) := by rw [h]
def pmB (c : Nat) : Bool := decide (c = 32) || (decide (c = 9) || (decide (c = 10) || (decide (33 ≤ c) && decide (c ≤ 126))))
theorem pmB_iff {c : Nat} : pmB c = true ↔ c = 32 ∨ c = 9 ∨ c = 10 ∨ 33 ≤ c ∧ c ≤ 126 := by simp [pmB]
/-- The text behind a sign. -/
def sgnX (s : ByteArray) : ByteArray := if sgnB (bts s) = true then s.extract 1 s.size else s
theorem sgnX_bts (s : ByteArray) : bts (sgnX s) = sgnT (bts s) := by
  unfold sgnX sgnT
  split
  · rw [bts_extract, List.take_of_length_le (by rw [List.length_drop, bts_len]; omega), List.drop_one]
  · rfl
theorem sgnX_size (s : ByteArray) : (sgnX s).size ≤ s.size := by
  rw [← bts_len, sgnX_bts, ← bts_len]
  unfold sgnT
  split
  · rw [List.length_tail]; omega
  · exact Nat.le_refl _
theorem sgnB_at (s : ByteArray) (h : 0 < s.size) : sgnB (bts s) = decide (s[0].toNat = 45) := by
  have := bts_drop s h
  rw [List.drop_zero] at this
  rw [this]; rfl
theorem sgnB_none (s : ByteArray) (h : s.size = 0) : sgnB (bts s) = false := by
  have : bts s = [] := by
    apply List.eq_nil_of_length_eq_zero; rw [bts_len]; exact h
  rw [this]; rfl
set_option linter.unusedSimpArgs false in
set_option linter.unusedVariables false in
set_option maxHeartbeats 1600000 in
theorem sign_any (s : ByteArray) (w : World) :
    Calls Tryd.prog 85 #[ .string s ] w fun e w' => e = .returned (.tuple #[.string (sgnX s), .bool (sgnB (bts s))]) ∧ w = w' := by
  by_cases h0 : s.size = 0
  · have hb := Lib.hid (sgnB_none s h0)
    go_enter Tryd.func85, Tryd.ntmps85
    go_wp2
    go_ret2
    exact ⟨by rw [sgnX, hb.out]; rfl, rfl⟩
  · have h0' : 0 < s.size := by omega
    have hb := Lib.hid (sgnB_at s h0')
    by_cases hc : s[0].toNat = 45
    · have hx : sgnX s = s.extract 1 s.size := by rw [sgnX, hb.out, if_pos (by simp [hc])]
      have HX := Lib.hid hx
      clear hx
      go_enter Tryd.func85, Tryd.ntmps85
      go_wp2
      go_ret2
      exact ⟨by rw [HX.out, hb.out]; simp [hc], rfl⟩
    · have hx : sgnX s = s := by rw [sgnX, hb.out, if_neg (by simp [hc])]
      have HX := Lib.hid hx
      clear hx
      go_enter Tryd.func85, Tryd.ntmps85
      go_wp2
      go_ret2
      exact ⟨by rw [HX.out, hb.out]; simp [hc], rfl⟩
set_option linter.unusedSimpArgs false in
set_option linter.unusedVariables false in
set_option maxHeartbeats 3200000 in
theorem digits_any (s : ByteArray) (w : World) (hs : s.size ≤ maxLen) :
    Calls Tryd.prog 86 #[ .string s ] w fun e w' => e = .returned (.tuple #[.int .i64 (digS (bts s) 0 0).1, .int .i64 (digS (bts s) 0 0).2]) ∧ w = w' := by
  unfold maxLen at hs
  go_enter Tryd.func86, Tryd.ntmps86
  go_wp2
  go_loop [4, 5] (fun n v => ∃ k x : Nat, k ≤ s.size ∧ n = .int .i64 k ∧ v = .int .i64 x ∧ x < 10 ^ min k 15 ∧ digS ((bts s).drop k) k x = digS (bts s) 0 0) (fun n _ => s.size - (intOf n).toNat)
  case atStart => exact ⟨0, 0, by omega, rfl, rfl, by decide, rfl⟩
  case round =>
    obtain ⟨k, x, hk, rfl, rfl, hx, hd⟩ := hrel
    have hx2 := pow_le15 k
    have hx3 : x ≤ 1000000000000000 := by omega
    clear hx2
    have HX := Lib.hid hx
    have HD := Lib.hid hd
    clear hx hd
    by_cases hlt : k < s.size
    · have hb := Lib.hid (bts_drop s hlt)
      have hc := (s[k]).toNat_lt
      rcases (show (s[k].toNat < 48 ∨ 57 < s[k].toNat) ∨ (48 ≤ s[k].toNat ∧ s[k].toNat ≤ 57 ∧ k < 15) ∨ (48 ≤ s[k].toNat ∧ s[k].toNat ≤ 57 ∧ 15 ≤ k) by omega) with h | ⟨h1, h2, h3⟩ | ⟨h1, h2, h3⟩
      · have he : digS (bts s) 0 0 = (k, x) := by rw [← HD.out, hb.out, digS_no (isd_not.2 h)]
        have HE := Lib.hid he
        clear he
        rcases h with h | h
        all_goals
          go_wp2
          go_ret2
          exact ⟨by rw [HE.out]; rfl, rfl⟩
      · have HS := Lib.hid (dig_step (n := k) (isd_iff.2 ⟨h1, h2⟩) HX.out)
        have HN : digS ((bts s).drop (k + 1)) (k + 1) (10 * x + (s[k].toNat - 48)) = digS (bts s) 0 0 := by
          rw [← HD.out, hb.out, digS_yes (isd_iff.2 ⟨h1, h2⟩), if_pos h3]
        have HN' := Lib.hid HN
        clear HN
        go_wp2
        go_round
        case rel => exact ⟨k + 1, 10 * x + (s[k].toNat - 48), by omega, by go_num, by go_num, by have := HS.out; rwa [if_pos h3] at this, HN'.out⟩
        case measure => simp [intOf]; omega
      · have HS := Lib.hid (dig_step (n := k) (isd_iff.2 ⟨h1, h2⟩) HX.out)
        have HN : digS ((bts s).drop (k + 1)) (k + 1) x = digS (bts s) 0 0 := by
          rw [← HD.out, hb.out, digS_yes (isd_iff.2 ⟨h1, h2⟩), if_neg (by omega)]
        have HN' := Lib.hid HN
        clear HN
        go_wp2
        go_round
        case rel => exact ⟨k + 1, x, by omega, by go_num, rfl, by have := HS.out; rwa [if_neg (by omega)] at this, HN'.out⟩
        case measure => simp [intOf]; omega
    · have he : digS (bts s) 0 0 = (k, x) := by rw [← HD.out, bts_end s (by omega)]; rfl
      have HE := Lib.hid he
      clear he
      go_wp2
      go_ret2
      exact ⟨by rw [HE.out]; rfl, rfl⟩
end Go.Proofs.YtpaiapcnoifpmaaDoor
namespace Go.Proofs.YtpaiapcnoifpmaaDoor
open Go.RowKit

/-- The cells of words. -/
def wcell (s : ByteArray) (x : Wd) : List Value := [.string (s.extract x.a x.b), .int .i64 x.line, .int .i64 x.col]
def wcells (s : ByteArray) (l : List Wd) : List Value := l.flatMap (wcell s)
theorem wcells_snoc (s : ByteArray) (l : List Wd) (x : Wd) : wcells s (l ++ [x]) = wcells s l ++ wcell s x := by simp [wcells]
def Res.words : Res → List Wd
  | .ok l => l
  | .bad _ => []
def Res.err : Res → Int
  | .ok _ => 0
  | .bad _ => 601
def Res.ln : Res → Int
  | .ok _ => 0
  | .bad k => k
/-- A block that holds an error of a source. -/
def ErrAt (W : World) (b : Nat) (e l : Int) : Prop := W.heap[b]? = some (.cells #[.int .i64 e, .int .i64 l] 48 (0, 0))
theorem ErrAt.c0 {W : World} {b : Nat} {e l : Int} (h : ErrAt W b e l) : W.cell? ⟨b, 0, none⟩ = some (.int .i64 e) := by
  have h' : W.heap[b]? = some (.cells #[.int .i64 e, .int .i64 l] 48 (0, 0)) := h
  simp [World.cell?, h']
theorem ErrAt.c1 {W : World} {b : Nat} {e l : Int} (h : ErrAt W b e l) : W.cell? ⟨b, 1, none⟩ = some (.int .i64 l) := by
  have h' : W.heap[b]? = some (.cells #[.int .i64 e, .int .i64 l] 48 (0, 0)) := h
  simp [World.cell?, h']
theorem ErrAt.f0 {W : World} {b : Nat} {e l : Int} (h : ErrAt W b e l) : W.frozen? ⟨b, 0, none⟩ = false := by
  have h' : W.heap[b]? = some (.cells #[.int .i64 e, .int .i64 l] 48 (0, 0)) := h
  simp [World.frozen?, h']
theorem ErrAt.f1 {W : World} {b : Nat} {e l : Int} (h : ErrAt W b e l) : W.frozen? ⟨b, 1, none⟩ = false := by
  have h' : W.heap[b]? = some (.cells #[.int .i64 e, .int .i64 l] 48 (0, 0)) := h
  simp [World.frozen?, h']
theorem ErrAt.lt {W : World} {b : Nat} {e l : Int} (h : ErrAt W b e l) : b < W.heap.size := lt_of_block h
theorem ErrAt.new (W : World) (e l : Int) : ErrAt (W.alloc (.cells #[.int .i64 e, .int .i64 l] 48)) W.heap.size e l := heap_alloc_new _ _
theorem ErrAt.put {W : World} {b : Nat} {e l : Int} (h : ErrAt W b e l) (x y : Int) : ErrAt ((W.setCell ⟨b, 0, none⟩ (.int .i64 x)).setCell ⟨b, 1, none⟩ (.int .i64 y)) b x y := by
  have h1 := heap_setCell_same W b 0 _ _ (.int .i64 x) h
  exact heap_setCell_same _ b 1 _ _ (.int .i64 y) h1
theorem word_ones (s : ByteArray) (x : Wd) : ∀ u ∈ wcell s x, u.oneCell' = true := by
  intro u hu
  simp [wcell] at hu
  rcases hu with rfl | rfl | rfl <;> rfl
theorem owns_base {w : World} {base base' : Nat} {e : TypeId} {size : Nat} {v : Value} {n : Nat} {xs : List Value} (h : w.ownsRow base e size v n xs) (hb : base' ≤ base) : w.ownsRow base' e size v n xs := by
  obtain ⟨h1, h2⟩ := h
  refine ⟨h1, ?_⟩
  rcases h2 with h2 | ⟨g, cap, cur, a, b, c⟩
  · exact .inl h2
  · exact .inr ⟨g, cap, cur, a, by omega, c⟩
end Go.Proofs.YtpaiapcnoifpmaaDoor
namespace Go.Proofs.YtpaiapcnoifpmaaDoor
open Go.RowKit

theorem bl_cell {W w1 : World} (hb : Below W.heap.size W w1) : (∀ b o, b < W.heap.size → w1.cell? ⟨b, o, none⟩ = W.cell? ⟨b, o, none⟩) ∧ (∀ b o, b < W.heap.size → w1.frozen? ⟨b, o, none⟩ = W.frozen? ⟨b, o, none⟩) :=
  ⟨fun b o h => hb.cell (p := ⟨b, o, none⟩) h, fun b o h => hb.frozen (p := ⟨b, o, none⟩) h⟩
theorem bl_next {W w1 w2 : World} (hb2 : Below w1.heap.size w1 w2) (h : Below W.heap.size W w1) : Below W.heap.size W w2 := h.trans (hb2.mono h.size)
theorem bl_alloc {W w : World} (h : Below W.heap.size W w) (o : Obj) : Below W.heap.size W (w.alloc o) := h.alloc h.size o
theorem bl_drewN {B : Nat} {a w : World} {n : Nat} (h : Below B a w) : Below B a (w.drewN n) := ⟨h.os, h.tape, h.output, h.size, h.block⟩
structure Tw where
  t : ByteArray
  l : Int
  c : Int
def wdT (s : ByteArray) (x : Wd) : Tw := ⟨s.extract x.a x.b, x.line, x.col⟩
/-- A slice of words that reads as a list. -/
def RdW (W : World) (v : Value) (xs : List Tw) : Prop := ∃ (A : Option Addr) (c : Nat), v = .slice A xs.length c ∧ xs.length ≤ 1048576 ∧
  ∀ (k : Nat) (h : k < xs.length), ∃ g, A = some ⟨g, 0, none⟩ ∧ g < W.heap.size ∧ W.cell? ⟨g, k * 3, none⟩ = some (.string xs[k].t) ∧ W.cell? ⟨g, k * 3 + 1, none⟩ = some (.int .i64 xs[k].l) ∧ W.cell? ⟨g, k * 3 + 2, none⟩ = some (.int .i64 xs[k].c)
theorem RdW.below {W V : World} {v : Value} {xs : List Tw} {B : Nat} (h : RdW W v xs) (hb : Below B W V) (hB : W.heap.size ≤ B) : RdW V v xs := by
  obtain ⟨A, c, hv, hl, hk⟩ := h
  refine ⟨A, c, hv, hl, fun k hkl => ?_⟩
  obtain ⟨g, hA, hg, h0, h1, h2⟩ := hk k hkl
  have hs := hb.size
  exact ⟨g, hA, by omega, (hb.cell (p := ⟨g, k * 3, none⟩) (by show g < B; omega)).trans h0, (hb.cell (p := ⟨g, k * 3 + 1, none⟩) (by show g < B; omega)).trans h1, (hb.cell (p := ⟨g, k * 3 + 2, none⟩) (by show g < B; omega)).trans h2⟩
theorem wcells_at (s : ByteArray) (l : List Wd) : ∀ (k : Nat) (h : k < l.length), (wcells s l)[k * 3]? = some (.string (s.extract l[k].a l[k].b)) ∧ (wcells s l)[k * 3 + 1]? = some (.int .i64 l[k].line) ∧ (wcells s l)[k * 3 + 2]? = some (.int .i64 l[k].col) := by
  induction l with
  | nil => intro k h; exact absurd h (by simp)
  | cons x l ih =>
    intro k h
    have e : wcells s (x :: l) = wcell s x ++ wcells s l := by simp [wcells]
    rw [e]
    match k with
    | 0 => simp [wcell]
    | k + 1 =>
      have h' := ih k (by simpa using h)
      have hl : (wcell s x).length = 3 := rfl
      rw [List.getElem?_append_right (by omega), List.getElem?_append_right (by omega), List.getElem?_append_right (by omega), hl]
      rw [show (k + 1) * 3 - 3 = k * 3 by omega, show (k + 1) * 3 + 1 - 3 = k * 3 + 1 by omega, show (k + 1) * 3 + 2 - 3 = k * 3 + 2 by omega]
      simpa using h'
theorem rdW_own {W : World} {base : Nat} {T : TypeId} {v : Value} {s : ByteArray} {l : List Wd} (h : W.ownsRow base T 3 v l.length (wcells s l)) (hl : l.length ≤ 1048576) : RdW W v (l.map (wdT s)) := by
  rcases h.2 with ⟨hv, hn⟩ | ⟨g, cap, cur, hv, hbg, hcur, h1, h2, h3, h4⟩
  · refine ⟨none, 0, by rw [hv, List.length_map, hn], by rw [List.length_map]; exact hl, fun k hk => ?_⟩
    rw [List.length_map] at hk; omega
  · refine ⟨some ⟨g, 0, none⟩, cap, by rw [List.length_map]; exact hv, by rw [List.length_map]; exact hl, fun k hk => ?_⟩
    rw [List.length_map] at hk
    subst hv
    obtain ⟨c0, c1, c2⟩ := wcells_at s l k hk
    have hlt := lt_of_block hcur
    refine ⟨g, rfl, hlt, ?_, ?_, ?_⟩
    · rw [h.cellAt (k * 3) (by omega), c0]; simp [wdT]
    · rw [h.cellAt (k * 3 + 1) (by omega), c1]; simp [wdT]
    · rw [h.cellAt (k * 3 + 2) (by omega), c2]; simp [wdT]
/-- Not more words than bytes. -/
theorem run_count {l : List Nat} {i line bg : Nat} {com : Bool} {st : Option Nat} {out W : List Wd} (h : run l i line bg com st out = .ok W) : W.length ≤ out.length + (if st = none then 0 else 1) + l.length := by
  induction l generalizing i line bg com st out with
  | nil =>
    simp [run] at h
    subst h
    cases st <;> simp [flush]
  | cons c l ih =>
    have hf : (flush st i line bg out).length ≤ out.length + (if st = none then 0 else 1) := by cases st <;> simp [flush]
    rw [run] at h
    simp only [List.length_cons]
    split at h
    · have := ih h
      simp at this
      split <;> omega
    · split at h
      · have := ih h; simp at this; omega
      · split at h
        · have := ih h; simp at this; omega
        · split at h
          · have := ih h; simp at this; omega
          · split at h
            · have := ih h; simp at this; omega
            · cases h
theorem split_count (s : ByteArray) : (splitS s).words.length ≤ 16384 := by
  unfold splitS
  split
  · exact Nat.zero_le _
  · cases h : run (bts s) 0 1 0 false none [] with
    | ok W =>
      have := run_count h
      rw [bts_len] at this
      simp at this
      show W.length ≤ 16384
      omega
    | bad k => exact Nat.zero_le _
/-- The words that Split left. -/
theorem split_rd {s : ByteArray} {W W' : World} {T : TypeId} {v : Value} (h : W'.ownsRow W.heap.size T 3 v (splitS s).words.length (wcells s (splitS s).words)) : RdW W' v ((splitS s).words.map (wdT s)) :=
  rdW_own h (by have := split_count s; omega)
end Go.Proofs.YtpaiapcnoifpmaaDoor
namespace Go.Proofs.YtpaiapcnoifpmaaDoor
open Go.RowKit

/-- The words of chapter 7, by their place in its table; 5 for any other. -/
def wordK (l : List Nat) : Nat := if l = [106, 111, 105, 110, 116] then 0 else if l = [108, 105, 109, 105, 116] then 1 else if l = [109, 97, 115, 115] then 2 else if l = [115, 104, 97, 112, 101] then 3 else if l = [115, 107, 105, 112] then 4 else 5
def knownK (k : Nat) : Bool := decide (k < 5)
def argsK (k : Nat) (n : Int) : Bool := match k with
  | 0 => decide (n = 9)
  | 1 => decide (n = 4)
  | 2 => decide (n = 5)
  | 3 => decide (5 ≤ n ∧ n ≤ 26 ∧ (n - 2) % 3 = 0)
  | 4 => decide (n = 2)
  | _ => false
theorem bts_const (s : ByteArray) (l : List UInt8) : (s.toList == l) = decide (bts s = l.map UInt8.toNat) := by
  rw [Bool.eq_iff_iff, beq_iff_eq, decide_eq_true_eq, ByteArray.toList_eq]
  unfold bts
  constructor
  · intro h; rw [h]
  · intro h; exact (List.map_inj_right (fun x y h => UInt8.toNat_inj.1 h)).1 h
/-- How a text compares with the five words. -/
theorem word_cases (s : ByteArray) : (wordK (bts s) = 0 ∧ (s.toList == [106, 111, 105, 110, 116]) = true ∧ (s.toList == [108, 105, 109, 105, 116]) = false ∧ (s.toList == [109, 97, 115, 115]) = false ∧ (s.toList == [115, 104, 97, 112, 101]) = false ∧ (s.toList == [115, 107, 105, 112]) = false) ∨ (wordK (bts s) = 1 ∧ (s.toList == [106, 111, 105, 110, 116]) = false ∧ (s.toList == [108, 105, 109, 105, 116]) = true ∧ (s.toList == [109, 97, 115, 115]) = false ∧ (s.toList == [115, 104, 97, 112, 101]) = false ∧ (s.toList == [115, 107, 105, 112]) = false) ∨ (wordK (bts s) = 2 ∧ (s.toList == [106, 111, 105, 110, 116]) = false ∧ (s.toList == [108, 105, 109, 105, 116]) = false ∧ (s.toList == [109, 97, 115, 115]) = true ∧ (s.toList == [115, 104, 97, 112, 101]) = false ∧ (s.toList == [115, 107, 105, 112]) = false) ∨ (wordK (bts s) = 3 ∧ (s.toList == [106, 111, 105, 110, 116]) = false ∧ (s.toList == [108, 105, 109, 105, 116]) = false ∧ (s.toList == [109, 97, 115, 115]) = false ∧ (s.toList == [115, 104, 97, 112, 101]) = true ∧ (s.toList == [115, 107, 105, 112]) = false) ∨ (wordK (bts s) = 4 ∧ (s.toList == [106, 111, 105, 110, 116]) = false ∧ (s.toList == [108, 105, 109, 105, 116]) = false ∧ (s.toList == [109, 97, 115, 115]) = false ∧ (s.toList == [115, 104, 97, 112, 101]) = false ∧ (s.toList == [115, 107, 105, 112]) = true) ∨ (wordK (bts s) = 5 ∧ (s.toList == [106, 111, 105, 110, 116]) = false ∧ (s.toList == [108, 105, 109, 105, 116]) = false ∧ (s.toList == [109, 97, 115, 115]) = false ∧ (s.toList == [115, 104, 97, 112, 101]) = false ∧ (s.toList == [115, 107, 105, 112]) = false) := by
  have e0 := bts_const s [106, 111, 105, 110, 116]
  have e1 := bts_const s [108, 105, 109, 105, 116]
  have e2 := bts_const s [109, 97, 115, 115]
  have e3 := bts_const s [115, 104, 97, 112, 101]
  have e4 := bts_const s [115, 107, 105, 112]
  simp only [List.map_cons, List.map_nil] at e0 e1 e2 e3 e4
  by_cases h0 : bts s = [106, 111, 105, 110, 116]
  · left
    refine ⟨by unfold wordK; simp [h0], by rw [e0]; exact decide_eq_true h0, by rw [e1, h0]; rfl, by rw [e2, h0]; rfl, by rw [e3, h0]; rfl, by rw [e4, h0]; rfl⟩
  · skip
    by_cases h1 : bts s = [108, 105, 109, 105, 116]
    · right; left
      refine ⟨by unfold wordK; simp [h1], by rw [e0, h1]; rfl, by rw [e1]; exact decide_eq_true h1, by rw [e2, h1]; rfl, by rw [e3, h1]; rfl, by rw [e4, h1]; rfl⟩
    · skip
      by_cases h2 : bts s = [109, 97, 115, 115]
      · right; right; left
        refine ⟨by unfold wordK; simp [h2], by rw [e0, h2]; rfl, by rw [e1, h2]; rfl, by rw [e2]; exact decide_eq_true h2, by rw [e3, h2]; rfl, by rw [e4, h2]; rfl⟩
      · skip
        by_cases h3 : bts s = [115, 104, 97, 112, 101]
        · right; right; right; left
          refine ⟨by unfold wordK; simp [h3], by rw [e0, h3]; rfl, by rw [e1, h3]; rfl, by rw [e2, h3]; rfl, by rw [e3]; exact decide_eq_true h3, by rw [e4, h3]; rfl⟩
        · skip
          by_cases h4 : bts s = [115, 107, 105, 112]
          · right; right; right; right; left
            refine ⟨by unfold wordK; simp [h4], by rw [e0, h4]; rfl, by rw [e1, h4]; rfl, by rw [e2, h4]; rfl, by rw [e3, h4]; rfl, by rw [e4]; exact decide_eq_true h4⟩
          · skip
            right; right; right; right; right
            refine ⟨by unfold wordK; simp [*], by rw [e0]; exact decide_eq_false h0, by rw [e1]; exact decide_eq_false h1, by rw [e2]; exact decide_eq_false h2, by rw [e3]; exact decide_eq_false h3, by rw [e4]; exact decide_eq_false h4⟩
set_option linter.unusedSimpArgs false in
set_option linter.unusedVariables false in
set_option maxHeartbeats 3200000 in
theorem rArguments_any (s : ByteArray) (n : Int) (w : World) (n1 : -9223372036854775808 ≤ n) (n2 : n ≤ 9223372036854775807) :
    Calls Tryd.prog 72 #[ .string s, .int .i64 n ] w fun e w' => e = .returned (.bool (argsK (wordK (bts s)) n)) ∧ w = w' := by
  obtain ⟨k, hkk⟩ : ∃ k, wordK (bts s) = k := ⟨_, rfl⟩
  rw [hkk]
  rcases word_cases s with h | h | h | h | h | h
  · obtain ⟨hk, c0, c1, c2, c3, c4⟩ := h
    rw [hkk] at hk
    subst hk
    clear hkk
    go_enter Tryd.func72, Tryd.ntmps72
    go_wp2
    go_ret
    exact ⟨ret_bool' (by first | rfl | (rw [Bool.eq_iff_iff]; simp [argsK])), rfl⟩
  · obtain ⟨hk, c0, c1, c2, c3, c4⟩ := h
    rw [hkk] at hk
    subst hk
    clear hkk
    go_enter Tryd.func72, Tryd.ntmps72
    go_wp2
    go_ret
    exact ⟨ret_bool' (by first | rfl | (rw [Bool.eq_iff_iff]; simp [argsK])), rfl⟩
  · obtain ⟨hk, c0, c1, c2, c3, c4⟩ := h
    rw [hkk] at hk
    subst hk
    clear hkk
    go_enter Tryd.func72, Tryd.ntmps72
    go_wp2
    go_ret
    exact ⟨ret_bool' (by first | rfl | (rw [Bool.eq_iff_iff]; simp [argsK])), rfl⟩
  · obtain ⟨hk, c0, c1, c2, c3, c4⟩ := h
    rw [hkk] at hk
    subst hk
    clear hkk
    rcases (show n < 5 ∨ 26 < n ∨ (5 ≤ n ∧ n ≤ 26) by omega) with h5 | h5 | ⟨h5, h6⟩
    all_goals
      go_enter Tryd.func72, Tryd.ntmps72
      go_wp2
      go_ret
      exact ⟨ret_bool' (by rw [Bool.eq_iff_iff]; simp [argsK]; try omega), rfl⟩
  · obtain ⟨hk, c0, c1, c2, c3, c4⟩ := h
    rw [hkk] at hk
    subst hk
    clear hkk
    go_enter Tryd.func72, Tryd.ntmps72
    go_wp2
    go_ret
    exact ⟨ret_bool' (by first | rfl | (rw [Bool.eq_iff_iff]; simp [argsK])), rfl⟩
  · obtain ⟨hk, c0, c1, c2, c3, c4⟩ := h
    rw [hkk] at hk
    subst hk
    clear hkk
    go_enter Tryd.func72, Tryd.ntmps72
    go_wp2
    go_ret
    exact ⟨ret_bool' (by first | rfl | (rw [Bool.eq_iff_iff]; simp [argsK])), rfl⟩
end Go.Proofs.YtpaiapcnoifpmaaDoor
namespace Go.Proofs.YtpaiapcnoifpmaaDoor
open Go.RowKit

/-- A statement. -/
structure St where
  line : Int
  word : ByteArray
  args : List ByteArray
/-- The words, line by line. -/
def grp : List Tw → List St
  | [] => []
  | x :: ws => match grp ws with
    | [] => [⟨x.l, x.t, []⟩]
    | g :: gs => if g.line = x.l then ⟨x.l, x.t, g.word :: g.args⟩ :: gs else ⟨x.l, x.t, []⟩ :: g :: gs
theorem grp_head (x : Tw) (ws : List Tw) : ∃ g gs, grp (x :: ws) = g :: gs ∧ g.line = x.l := by
  rw [grp]
  split
  · exact ⟨_, _, rfl, rfl⟩
  · split
    · exact ⟨_, _, rfl, rfl⟩
    · exact ⟨_, _, rfl, rfl⟩
/-- One line, and what is behind it. -/
theorem grp_line (x : Tw) (m r : List Tw) (hm : ∀ y ∈ m, y.l = x.l) (hr : ∀ z u, r = z :: u → z.l ≠ x.l) : grp (x :: (m ++ r)) = ⟨x.l, x.t, m.map (·.t)⟩ :: grp r := by
  induction m generalizing x with
  | nil =>
    rw [List.nil_append, grp]
    cases r with
    | nil => rfl
    | cons z u =>
      obtain ⟨g, gs, h1, h2⟩ := grp_head z u
      rw [h1]
      simp only
      rw [if_neg (by rw [h2]; exact hr z u rfl)]
      rfl
  | cons y m ih =>
    have hy := hm y (by simp)
    have := ih y (fun z hz => by rw [hy]; exact hm z (by simp [hz])) (fun z u h => by rw [hy]; exact hr z u h)
    rw [List.cons_append, grp, this]
    simp only
    rw [if_pos hy]
    rfl
/-- The first statement that is not permitted, n being ahead: its error and its line. -/
def chk : Nat → List St → Option (Int × Int)
  | _, [] => none
  | n, g :: gs => if 256 ≤ n then some (703, g.line) else if knownK (wordK (bts g.word)) = false then some (701, g.line) else if argsK (wordK (bts g.word)) g.args.length = false then some (702, g.line) else chk (n + 1) gs
def GoodSt (g : St) : Prop := knownK (wordK (bts g.word)) = true ∧ argsK (wordK (bts g.word)) g.args.length = true
theorem chk_step {n : Nat} {g : St} {gs : List St} (hn : n < 256) (h : GoodSt g) : chk n (g :: gs) = chk (n + 1) gs := by
  rw [chk, if_neg (by omega), if_neg (by rw [h.1]; decide), if_neg (by rw [h.2]; decide)]
theorem chk_none {n : Nat} {l : List St} : chk n l = none ↔ (n + l.length ≤ 256 ∨ l = []) ∧ ∀ g ∈ l, GoodSt g := by
  induction l generalizing n with
  | nil => simp [chk]
  | cons g gs ih =>
    constructor
    · intro h
      rw [chk] at h
      split at h
      · cases h
      · split at h
        · cases h
        · split at h
          · cases h
          · rename_i h1 h2 h3
            obtain ⟨a1, a2⟩ := ih.1 h
            refine ⟨.inl ?_, fun x hx => ?_⟩
            · rw [List.length_cons]
              rcases a1 with a1 | rfl
              · omega
              · simp; omega
            · rcases List.mem_cons.1 hx with rfl | hx
              · exact ⟨by simpa using h2, by simpa using h3⟩
              · exact a2 x hx
    · rintro ⟨h1, h2⟩
      have hlen : n + (gs.length + 1) ≤ 256 := by
        rcases h1 with h1 | h1
        · rwa [List.length_cons] at h1
        · cases h1
      rw [chk_step (by omega) (h2 g (by simp)), ih]
      exact ⟨.inl (by omega), fun x hx => h2 x (by simp [hx])⟩
/-- What Parse returns: the statements, the error, and its line. -/
structure PRes where
  sts : List St
  err : Int
  ln : Int
def parseW (ws : List Tw) : PRes := match chk 0 (grp ws) with
  | some (e, k) => ⟨[], e, k⟩
  | none => ⟨grp ws, 0, 0⟩
def parseS (s : ByteArray) : PRes := match splitS s with
  | .bad k => ⟨[], 601, k⟩
  | .ok l => parseW (l.map (wdT s))
theorem grp_count (ws : List Tw) : (grp ws).length ≤ ws.length := by
  induction ws with
  | nil => simp [grp]
  | cons x ws ih =>
    rw [grp]
    split
    · simp
    · rename_i g gs h
      rw [h] at ih
      split
      · simp at ih ⊢; omega
      · simp at ih ⊢; omega
theorem grp_args (ws : List Tw) : ∀ g ∈ grp ws, g.args.length ≤ ws.length := by
  induction ws with
  | nil => intro g hg; cases hg
  | cons x ws ih =>
    intro g hg
    rw [grp] at hg
    split at hg
    · simp at hg; subst hg; simp
    · rename_i g0 gs h
      rw [h] at ih
      split at hg
      · rcases List.mem_cons.1 hg with rfl | hg
        · have := ih g0 (by simp); simp; omega
        · have := ih g (by simp [hg]); simp; omega
      · rcases List.mem_cons.1 hg with rfl | hg
        · simp
        · have := ih g (by simpa using hg); simp; omega
theorem parse_bad {s : ByteArray} {k : Nat} (h : splitS s = .bad k) : parseS s = ⟨[], 601, k⟩ := by unfold parseS; rw [h]
theorem parse_err {s : ByteArray} {l : List Wd} {e k : Int} (h : splitS s = .ok l) (hc : chk 0 (grp (l.map (wdT s))) = some (e, k)) : parseS s = ⟨[], e, k⟩ := by unfold parseS; rw [h]; simp only; unfold parseW; rw [hc]
theorem parse_ok {s : ByteArray} {l : List Wd} (h : splitS s = .ok l) (hc : chk 0 (grp (l.map (wdT s))) = none) : parseS s = ⟨grp (l.map (wdT s)), 0, 0⟩ := by unfold parseS; rw [h]; simp only; unfold parseW; rw [hc]
theorem split_while {α : Type} (p : α → Bool) (l : List α) : ∃ m r, l = m ++ r ∧ (∀ y ∈ m, p y = true) ∧ ∀ z u, r = z :: u → p z = false := by
  induction l with
  | nil => exact ⟨[], [], rfl, by simp, fun z u h => by cases h⟩
  | cons x l ih =>
    cases hx : p x with
    | false => exact ⟨[], x :: l, rfl, by simp, fun z u h => by injection h with h _; subst h; exact hx⟩
    | true =>
      obtain ⟨m, r, h1, h2, h3⟩ := ih
      refine ⟨x :: m, r, by rw [h1]; rfl, fun y hy => ?_, h3⟩
      rcases List.mem_cons.1 hy with rfl | hy
      · exact hx
      · exact h2 y hy
/-- The words of one line, and the others. -/
theorem line_cut {ws : List Tw} {i : Nat} (hi : i < ws.length) : ∃ m r : List Tw, ws.drop (i + 1) = m ++ r ∧ (∀ y ∈ m, y.l = ws[i].l) ∧ (∀ z u, r = z :: u → z.l ≠ ws[i].l) ∧ i + 1 + m.length ≤ ws.length ∧ ws.drop (i + 1 + m.length) = r ∧
    (∀ j (h : j < m.length), ∃ h' : i + 1 + j < ws.length, m[j] = ws[i + 1 + j]) ∧ grp (ws.drop i) = ⟨ws[i].l, ws[i].t, m.map (·.t)⟩ :: grp r := by
  obtain ⟨m, r, h1, h2, h3⟩ := split_while (fun y : Tw => decide (y.l = ws[i].l)) (ws.drop (i + 1))
  have hl := congrArg List.length h1
  rw [List.length_drop, List.length_append] at hl
  have hm : ∀ y ∈ m, y.l = ws[i].l := fun y hy => by simpa using h2 y hy
  have hr : ∀ z u, r = z :: u → z.l ≠ ws[i].l := fun z u h => by simpa using h3 z u h
  refine ⟨m, r, h1, hm, hr, by omega, ?_, ?_, ?_⟩
  · rw [← List.drop_drop, h1]; exact List.drop_left' rfl
  · intro j h
    have h' : i + 1 + j < ws.length := by omega
    refine ⟨h', ?_⟩
    have e1 : (ws.drop (i + 1))[j]? = some m[j] := by rw [h1, List.getElem?_append_left h, List.getElem?_eq_getElem h]
    rw [List.getElem?_drop, List.getElem?_eq_getElem h'] at e1
    exact (Option.some.inj e1).symm
  · rw [List.drop_eq_getElem_cons hi, h1]
    exact grp_line _ _ _ hm hr
end Go.Proofs.YtpaiapcnoifpmaaDoor
namespace Go.Proofs.YtpaiapcnoifpmaaDoor
open Go.RowKit

/-- A slice of texts that reads as a list. -/
def RdT (W : World) (v : Value) (xs : List ByteArray) : Prop := ∃ (A : Option Addr) (c : Nat), v = .slice A xs.length c ∧ (xs.length ≤ c ∧ xs.length ≤ 8796093022208) ∧
  ∀ (k : Nat) (h : k < xs.length), ∃ g o, A = some ⟨g, o, none⟩ ∧ g < W.heap.size ∧ W.cell? ⟨g, o + k, none⟩ = some (.string xs[k])
theorem RdT.below {W V : World} {v : Value} {xs : List ByteArray} {B : Nat} (h : RdT W v xs) (hb : Below B W V) (hB : W.heap.size ≤ B) : RdT V v xs := by
  obtain ⟨A, c, hv, hl, hk⟩ := h
  refine ⟨A, c, hv, hl, fun k hkl => ?_⟩
  obtain ⟨g, o, hA, hg, h0⟩ := hk k hkl
  have hs := hb.size
  exact ⟨g, o, hA, by omega, (hb.cell (p := ⟨g, o + k, none⟩) (by show g < B; omega)).trans h0⟩
theorem RdT.drewN {W : World} {v : Value} {xs : List ByteArray} (h : RdT W v xs) (n : Nat) : RdT (W.drewN n) v xs := h
/-- A slice of statements that reads as a list. -/
def RdS (W : World) (v : Value) (l : List St) : Prop := ∃ (A : Option Addr) (c : Nat), v = .slice A l.length c ∧ (l.length ≤ c ∧ l.length ≤ 8796093022208) ∧
  ∀ (k : Nat) (h : k < l.length), ∃ g o va, A = some ⟨g, o, none⟩ ∧ g < W.heap.size ∧ W.cell? ⟨g, o + k * 3, none⟩ = some (.int .i64 l[k].line) ∧ W.cell? ⟨g, o + k * 3 + 1, none⟩ = some (.string l[k].word) ∧ W.cell? ⟨g, o + k * 3 + 2, none⟩ = some va ∧ RdT W va l[k].args
theorem RdS.below {W V : World} {v : Value} {l : List St} {B : Nat} (h : RdS W v l) (hb : Below B W V) (hB : W.heap.size ≤ B) : RdS V v l := by
  obtain ⟨A, c, hv, hl, hk⟩ := h
  refine ⟨A, c, hv, hl, fun k hkl => ?_⟩
  obtain ⟨g, o, va, hA, hg, h0, h1, h2, h3⟩ := hk k hkl
  have hs := hb.size
  exact ⟨g, o, va, hA, by omega, (hb.cell (p := ⟨g, o + k * 3, none⟩) (by show g < B; omega)).trans h0, (hb.cell (p := ⟨g, o + k * 3 + 1, none⟩) (by show g < B; omega)).trans h1, (hb.cell (p := ⟨g, o + k * 3 + 2, none⟩) (by show g < B; omega)).trans h2, h3.below hb hB⟩
theorem RdS.take {W : World} {A : Option Addr} {n c m : Nat} {l : List St} (h : RdS W (.slice A n c) l) (hm : m ≤ l.length) : RdS W (.slice A m c) (l.take m) := by
  obtain ⟨A', c', hv, hl, hk⟩ := h
  injection hv with h1 h2 h3
  subst h1 h3
  refine ⟨A, c, by rw [List.length_take, Nat.min_eq_left hm], by rw [List.length_take]; omega, fun k hkl => ?_⟩
  rw [List.length_take] at hkl
  obtain ⟨g, o, va, hA, hg, h0, h1, h2, h3⟩ := hk k (by omega)
  refine ⟨g, o, va, hA, hg, ?_, ?_, h2, ?_⟩
  · rw [List.getElem_take]; exact h0
  · rw [List.getElem_take]; exact h1
  · rw [List.getElem_take]; exact h3
theorem RdS.nil (W : World) : RdS W (.slice none 0 0) [] := ⟨none, 0, rfl, by simp, fun k h => absurd h (by simp)⟩
/-- Lists of statements that differ, if at all, in their lines. -/
def AlikeB (lines : Bool) (a b : List St) : Prop := a.length = b.length ∧ ∀ (k : Nat) (h : k < a.length) (h' : k < b.length), a[k].word = b[k].word ∧ a[k].args = b[k].args ∧ (lines = true → a[k].line = b[k].line)
theorem alike_refl (lines : Bool) (a : List St) : AlikeB lines a a := ⟨rfl, fun _ _ _ => ⟨rfl, rfl, fun _ => rfl⟩⟩
end Go.Proofs.YtpaiapcnoifpmaaDoor
