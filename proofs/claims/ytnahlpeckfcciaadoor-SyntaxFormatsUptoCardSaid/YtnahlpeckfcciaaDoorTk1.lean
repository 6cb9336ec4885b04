/- Proved: plain facts on texts: the bytes of a text as numbers, and the words that chapter 6 finds in them, with their places. Conditions: as each theorem states. Nothing of the program is used. -/
import Derived.WalkKit
namespace Go.Proofs.YtnahlpeckfcciaaDoor
open Go.RowKit

/-- The bytes of a text, as numbers. -/
def bts (s : ByteArray) : List Nat := s.data.toList.map UInt8.toNat
theorem bts_len (s : ByteArray) : (bts s).length = s.size := by unfold bts; rw [List.length_map]; rfl
theorem bts_get (s : ByteArray) {i : Nat} (h : i < s.size) : (bts s)[i]'(by rw [bts_len]; exact h) = s[i].toNat := by
  simp only [bts, List.getElem_map]; rfl
theorem bts_drop (s : ByteArray) {i : Nat} (h : i < s.size) : (bts s).drop i = s[i].toNat :: (bts s).drop (i + 1) := by
  rw [List.drop_eq_getElem_cons (by rw [bts_len]; exact h), bts_get s h]
theorem bts_end (s : ByteArray) {i : Nat} (h : s.size ≤ i) : (bts s).drop i = [] := List.drop_of_length_le (by rw [bts_len]; exact h)
theorem bts_append (a b : ByteArray) : bts (a ++ b) = bts a ++ bts b := by simp [bts, ByteArray.data_append]
theorem bts_extract (s : ByteArray) (a b : Nat) : bts (s.extract a b) = ((bts s).drop a).take (b - a) := by
  simp [bts, ByteArray.data_extract, Array.toList_extract, List.extract, List.map_take, List.map_drop]
theorem bts_lt {s : ByteArray} {x : Nat} (h : x ∈ bts s) : x < 256 := by
  obtain ⟨y, _, rfl⟩ := List.mem_map.1 h
  exact y.toNat_lt
theorem bts_inj {a b : ByteArray} (h : bts a = bts b) : a = b := by
  have hi : Function.Injective UInt8.toNat := fun x y h => UInt8.toNat_inj.1 h
  have := (List.map_inj_right (fun x y h => hi h)).1 h
  apply ByteArray.ext
  exact Array.ext' this
theorem bts_eq {a b : ByteArray} : (a.toList == b.toList) = decide (bts a = bts b) := by
  rw [Bool.eq_iff_iff, beq_iff_eq, decide_eq_true_eq, ByteArray.toList_eq, ByteArray.toList_eq]
  exact ⟨fun h => by unfold bts; rw [h], fun h => by rw [bts_inj h]⟩
theorem bts_mk (l : List UInt8) : bts ⟨l.toArray⟩ = l.map UInt8.toNat := by simp [bts]

/-- A byte of a word. -/
def wb (c : Nat) : Bool := decide (33 ≤ c) && decide (c ≤ 126) && decide (c ≠ 35)
theorem wb_iff {c : Nat} : wb c = true ↔ 33 ≤ c ∧ c ≤ 126 ∧ c ≠ 35 := by simp [wb, and_assoc]
theorem wb_not {c : Nat} : wb c = false ↔ c < 33 ∨ 126 < c ∨ c = 35 := by
  have := wb_iff (c := c)
  cases h : wb c
  · simp [h] at this ⊢; omega
  · simp [h] at this ⊢; omega
structure Wd where
  a : Nat
  b : Nat
  line : Nat
  col : Int
inductive Res where
  | ok (l : List Wd)
  | bad (line : Nat)
def flush (st : Option Nat) (i line bg : Nat) (out : List Wd) : List Wd :=
  match st with
  | none => out
  | some a => out ++ [⟨a, i, line, (a : Int) - bg + 1⟩]
/-- What chapter 6 finds in the bytes l, which begin at place i: the line, the place where it begins, whether this is a comment, where the word began in which this is, and the words so far. -/
def run : List Nat → Nat → Nat → Nat → Bool → Option Nat → List Wd → Res
  | [], i, line, bg, _, st, out => .ok (flush st i line bg out)
  | c :: l, i, line, bg, com, st, out =>
    if com = false ∧ wb c = true then run l (i + 1) line bg false (some (st.getD i)) out
    else if c = 10 then run l (i + 1) (line + 1) (i + 1) false none (flush st i line bg out)
    else if com = true then run l (i + 1) line bg true none (flush st i line bg out)
    else if c = 35 then run l (i + 1) line bg true none (flush st i line bg out)
    else if c = 32 ∨ c = 9 then run l (i + 1) line bg false none (flush st i line bg out)
    else .bad line
section
variable {c i line bg : Nat} {l : List Nat} {out : List Wd} {st : Option Nat} {com : Bool}
theorem run_word (h : wb c = true) : run (c :: l) i line bg false st out = run l (i + 1) line bg false (some (st.getD i)) out := by rw [run, if_pos ⟨rfl, h⟩]
theorem run_line (h : c = 10) : run (c :: l) i line bg com st out = run l (i + 1) (line + 1) (i + 1) false none (flush st i line bg out) := by
  subst h; rw [run, if_neg (by simp [wb]), if_pos rfl]
theorem run_com (h : c ≠ 10) : run (c :: l) i line bg true st out = run l (i + 1) line bg true none (flush st i line bg out) := by
  rw [run, if_neg (by simp), if_neg h, if_pos rfl]
theorem run_hash (h : c = 35) : run (c :: l) i line bg false st out = run l (i + 1) line bg true none (flush st i line bg out) := by
  subst h; rw [run, if_neg (by simp [wb]), if_neg (by decide), if_neg (by decide), if_pos rfl]
theorem run_gap (h : c = 32 ∨ c = 9) : run (c :: l) i line bg false st out = run l (i + 1) line bg false none (flush st i line bg out) := by
  rw [run, if_neg (by rcases h with h | h <;> subst h <;> simp [wb]), if_neg (by omega), if_neg (by decide), if_neg (by omega), if_pos h]
theorem run_bad (h0 : wb c = false) (h1 : c ≠ 10) (h2 : c ≠ 35) (h3 : c ≠ 32) (h4 : c ≠ 9) : run (c :: l) i line bg false st out = .bad line := by
  rw [run, if_neg (by simp [h0]), if_neg h1, if_neg (by decide), if_neg h2, if_neg (by omega)]
/-- A word ends ahead of a byte that is none of a word. -/
theorem run_flush (h : com = true ∨ ∀ c m, l = c :: m → wb c = false) : run l i line bg com st out = run l i line bg com none (flush st i line bg out) := by
  cases l with
  | nil => cases st <;> rfl
  | cons c l =>
    have hc : ¬ (com = false ∧ wb c = true) := by
      rintro ⟨h1, h2⟩
      rcases h with h | h
      · rw [h] at h1; cases h1
      · rw [h c l rfl] at h2; cases h2
    rw [run, if_neg hc, run, if_neg hc]
    cases st <;> rfl
/-- Bytes beyond ASCII change nothing within a comment. -/
theorem run_skip {m : List Nat} (h : ∀ x ∈ m, x ≠ 10) : run (m ++ l) i line bg true none out = run l (i + m.length) line bg true none out := by
  induction m generalizing i with
  | nil => rfl
  | cons c m ih =>
    rw [List.cons_append, run_com (h c (by simp))]
    show run (m ++ l) (i + 1) line bg true none out = _
    rw [ih (fun x hx => h x (by simp [hx]))]
    congr 1
    simp; omega
/-- A whole word. -/
theorem run_words {m : List Nat} (h : ∀ x ∈ m, wb x = true) (hm : m ≠ []) : run (m ++ l) i line bg false none out = run l (i + m.length) line bg false (some i) out := by
  have key : ∀ (m : List Nat) (i a : Nat), (∀ x ∈ m, wb x = true) → run (m ++ l) i line bg false (some a) out = run l (i + m.length) line bg false (some a) out := by
    intro m
    induction m with
    | nil => intros; rfl
    | cons c m ih =>
      intro i a h
      rw [List.cons_append, run_word (h c (by simp))]
      show run (m ++ l) (i + 1) line bg false (some a) out = _
      rw [ih _ _ (fun x hx => h x (by simp [hx]))]
      congr 1
      simp; omega
  cases m with
  | nil => exact absurd rfl hm
  | cons c m =>
    rw [List.cons_append, run_word (h c (by simp))]
    show run (m ++ l) (i + 1) line bg false (some i) out = _
    rw [key _ _ _ (fun x hx => h x (by simp [hx]))]
    congr 1
    simp; omega
end
/-- What Split finds. -/
def splitS (s : ByteArray) : Res := if 16384 < s.size then .bad 0 else run (bts s) 0 1 0 false none []
theorem bad_pos {l : List Nat} {i line bg : Nat} {com : Bool} {st : Option Nat} {out : List Wd} {k : Nat} (h : run l i line bg com st out = .bad k) : line ≤ k := by
  induction l generalizing i line bg com st out with
  | nil => simp [run] at h
  | cons c l ih =>
    rw [run] at h
    split at h
    · exact ih h
    · split at h
      · have := ih h; omega
      · split at h
        · exact ih h
        · split at h
          · exact ih h
          · split at h
            · exact ih h
            · cases h; exact Nat.le_refl _

/-- The line of place i, and where it begins. -/
def lineOf (l : List Nat) (i : Nat) : Nat := 1 + (l.take i).count 10
def bgOf (l : List Nat) : Nat → Nat
  | 0 => 0
  | i + 1 => if l[i]? = some 10 then i + 1 else bgOf l i
theorem bgOf_le (l : List Nat) (i : Nat) : bgOf l i ≤ i := by
  induction i with
  | zero => exact Nat.le_refl _
  | succ i ih => rw [bgOf]; split <;> omega
theorem lineOf_zero (l : List Nat) : lineOf l 0 = 1 := by simp [lineOf]
theorem lineOf_succ (l : List Nat) {i : Nat} (h : i < l.length) : lineOf l (i + 1) = lineOf l i + if l[i] = 10 then 1 else 0 := by
  unfold lineOf
  rw [List.take_succ_eq_append_getElem h, List.count_append, List.count_singleton]
  by_cases e : l[i] = 10 <;> simp [e] <;> omega
theorem bgOf_succ (l : List Nat) {i : Nat} (h : i < l.length) : bgOf l (i + 1) = if l[i] = 10 then i + 1 else bgOf l i := by
  rw [bgOf, List.getElem?_eq_getElem h]; simp
theorem lineOf_mono (l : List Nat) {i j : Nat} (h : i ≤ j) : lineOf l i ≤ lineOf l j := by
  unfold lineOf
  have : (l.take i).Sublist (l.take j) := by
    have e : l.take i = (l.take j).take i := by rw [List.take_take, Nat.min_eq_left h]
    rw [e]; exact List.take_sublist _ _
  have := this.count_le 10
  omega
/-- Places of one line have one beginning. -/
theorem bg_line (l : List Nat) {i j : Nat} (h : i ≤ j) (hj : j ≤ l.length) (e : lineOf l i = lineOf l j) : bgOf l i = bgOf l j := by
  induction j with
  | zero => have : i = 0 := by omega
            subst this; rfl
  | succ j ih =>
    by_cases hij : i = j + 1
    · subst hij; rfl
    · have hjl : j < l.length := by omega
      have h1 := lineOf_mono l (show i ≤ j by omega)
      have h2 := lineOf_succ l hjl
      by_cases hc : l[j] = 10
      · rw [if_pos hc] at h2; omega
      · rw [if_neg hc] at h2
        rw [bgOf_succ l hjl, if_neg hc]
        exact ih (by omega) (by omega) (by omega)
/-- Line and column name a place. -/
theorem place_one (l : List Nat) {i j : Nat} (hi : i ≤ l.length) (hj : j ≤ l.length) (e : lineOf l i = lineOf l j) (c : (i : Int) - bgOf l i = (j : Int) - bgOf l j) : i = j := by
  rcases Nat.le_total i j with h | h
  · have := bg_line l h hj e; omega
  · have := bg_line l h hi e.symm; omega
/-- Where a word stands. -/
def Wd.Good (L : List Nat) (w : Wd) : Prop := w.a < w.b ∧ w.b ≤ L.length ∧ w.line = lineOf L w.a ∧ w.col = (w.a : Int) - bgOf L w.a + 1
def Words (L : List Nat) (out : List Wd) (i : Nat) : Prop := (∀ w ∈ out, w.Good L ∧ w.b ≤ i) ∧ out.Pairwise (fun x y => x.a < y.a)
theorem words_nil (L : List Nat) (i : Nat) : Words L [] i := ⟨by simp, List.Pairwise.nil⟩
theorem words_up {L : List Nat} {out : List Wd} {i j : Nat} (h : Words L out i) (hij : i ≤ j) : Words L out j := ⟨fun w hw => ⟨(h.1 w hw).1, by have := (h.1 w hw).2; omega⟩, h.2⟩
theorem words_add {L : List Nat} {out : List Wd} {a i : Nat} (h : Words L out a) (ha : a < i) (hi : i ≤ L.length) :
    Words L (out ++ [⟨a, i, lineOf L a, (a : Int) - bgOf L a + 1⟩]) i := by
  refine ⟨fun w hw => ?_, ?_⟩
  · rcases List.mem_append.1 hw with hw | hw
    · exact ⟨(h.1 w hw).1, by have := (h.1 w hw).2; omega⟩
    · simp at hw; subst hw; exact ⟨⟨ha, hi, rfl, rfl⟩, Nat.le_refl _⟩
  · rw [List.pairwise_append]
    refine ⟨h.2, List.pairwise_singleton _ _, fun x hx y hy => ?_⟩
    simp at hy; subst hy
    have h1 := (h.1 x hx).1.1
    have h2 := (h.1 x hx).2
    show x.a < a
    omega
/-- The words that are found stand at their places, in order. -/
theorem run_good (L : List Nat) : ∀ (l : List Nat) (i : Nat) (com : Bool) (st : Option Nat) (out W : List Wd), l = L.drop i → i ≤ L.length →
    (∀ a, st = some a → a < i ∧ lineOf L a = lineOf L i ∧ Words L out a) → (st = none → Words L out i) → run l i (lineOf L i) (bgOf L i) com st out = .ok W → Words L W L.length := by
  have hf : ∀ (i : Nat) (st : Option Nat) (out : List Wd), i ≤ L.length → (∀ a, st = some a → a < i ∧ lineOf L a = lineOf L i ∧ Words L out a) → (st = none → Words L out i) → Words L (flush st i (lineOf L i) (bgOf L i) out) i := by
    intro i st out hi hs hn
    cases st with
    | none => exact hn rfl
    | some a =>
      obtain ⟨h1, h2, h3⟩ := hs a rfl
      have h4 := bg_line L (show a ≤ i by omega) hi h2
      show Words L (out ++ [⟨a, i, lineOf L i, (a : Int) - bgOf L i + 1⟩]) i
      rw [← h2, ← h4]
      exact words_add h3 h1 hi
  intro l
  induction l with
  | nil =>
    intro i com st out W hl hi hs hn hr
    have hlen : L.length ≤ i := by
      have := congrArg List.length hl
      simp at this; omega
    have e : i = L.length := by omega
    simp [run] at hr
    subst hr
    rw [← e]
    exact hf i st out hi hs hn
  | cons c l ih =>
    intro i com st out W hl hi hs hn hr
    have hlt : i < L.length := by
      rcases Nat.lt_or_ge i L.length with h | h
      · exact h
      · rw [List.drop_of_length_le h] at hl; cases hl
    rw [List.drop_eq_getElem_cons hlt] at hl
    injection hl with hc hl'
    have lk := lineOf_succ L hlt
    have bk := bgOf_succ L hlt
    rw [← hc] at lk bk
    have H := hf i st out hi hs hn
    rw [run] at hr
    split at hr
    · rename_i hw
      have hc10 : c ≠ 10 := by rintro rfl; simp [wb] at hw
      rw [if_neg hc10] at lk bk
      replace lk : lineOf L (i + 1) = lineOf L i := lk
      rw [← lk, ← bk] at hr
      refine ih _ _ _ _ _ hl' (by omega) (fun a ha => ?_) (fun h => by cases h) hr
      cases st with
      | none => simp at ha; subst ha; exact ⟨by omega, by rw [lk], hn rfl⟩
      | some b => simp at ha; subst ha; exact ⟨by have := (hs b rfl).1; omega, by rw [lk]; exact (hs b rfl).2.1, (hs b rfl).2.2⟩
    · split at hr
      · rename_i h10
        rw [if_pos h10] at lk bk
        rw [← lk] at hr
        exact ih (i + 1) false none (flush st i (lineOf L i) (bgOf L i) out) W hl' (by omega) (fun a ha => by cases ha) (fun _ => words_up H (show i ≤ i + 1 by omega)) (by rw [bk]; exact hr)
      · rename_i h10
        rw [if_neg h10] at lk bk
        replace lk : lineOf L (i + 1) = lineOf L i := lk
        rw [← lk, ← bk] at hr
        split at hr
        · exact ih _ _ _ _ _ hl' (by omega) (fun a ha => by cases ha) (fun _ => words_up (by rw [lk, bk]; exact H) (show i ≤ i + 1 by omega)) hr
        · split at hr
          · exact ih _ _ _ _ _ hl' (by omega) (fun a ha => by cases ha) (fun _ => words_up (by rw [lk, bk]; exact H) (show i ≤ i + 1 by omega)) hr
          · split at hr
            · exact ih _ _ _ _ _ hl' (by omega) (fun a ha => by cases ha) (fun _ => words_up (by rw [lk, bk]; exact H) (show i ≤ i + 1 by omega)) hr
            · cases hr
theorem split_good {s : ByteArray} {W : List Wd} (h : splitS s = .ok W) : Words (bts s) W s.size := by
  unfold splitS at h
  split at h
  · cases h
  · rw [← bts_len]
    exact run_good (bts s) (bts s) 0 false none [] W rfl (Nat.zero_le _) (fun a ha => by cases ha) (fun _ => words_nil _ _) (by simpa [lineOf, bgOf] using h)
end Go.Proofs.YtnahlpeckfcciaaDoor
