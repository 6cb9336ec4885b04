/- Proved: plain facts on texts: the bytes of a text as numbers, and the words that chapter 6 finds in them, with their places. Conditions: as each theorem states. Nothing of the program is used. · Proved: what a range over a text meets, rune by rune, against the words of Tk1. Conditions: as each theorem states. Nothing of the program is used. · Proved: plain facts on the numbers of chapter 6: what a decimal text denotes, which text a number has, and that the one undoes the other. Conditions: as each theorem states. Nothing of the program is used. · Proved: plain facts on texts of digits, as the developers' functions read them: what 1 to m digits denote, and a text cut at its first point. Conditions: as each theorem states. Nothing of the program is used. -/
import Derived.WalkKit
import Derived.Lib.OthersKept
namespace Go.Proofs.YtpaiapcnoifpmaaDoor
open Go.RowKit

/-- The bytes of a text, as numbers. -/
def bts (s : ByteArray) : List Nat := s.data.toList.map UInt8.toNat
theorem bts_len (s : ByteArray) : (bts s).length = s.size := by unfold bts; rw [List.length_map]; rfl
theorem bts_get (s : ByteArray) {i : Nat} (h : i < s.size) : (bts s)[i]'(by rw [bts_len]; exact h) = s[i].toNat := by
  simp only [bts, List.getElem_map]; rfl
theorem bts_drop (s : ByteArray) {i : Nat} (h : i < s.size) : (bts s).drop i = s[i].toNat :: (bts s).drop (i + 1) := by
  rw [List.drop_eq_getElem_cons (by rw [bts_len]; exact h), bts_get s h]
theorem bts_end (s : ByteArray) {i : Nat} (h : s.size ≤ i) : (bts s).drop i = [] := List.drop_of_length_le (by rw [bts_len]; exact h)
theorem bts_append (a b : ByteArray) : bts (a ++ b) = bts a ++ bts b := by simp [bts, ByteArray.data_append]
theorem bts_extract (s : ByteArray) (a b : Nat) : bts (s.extract a b) = ((bts s).drop a).take (b - a) := by
  simp [bts, ByteArray.data_extract, Array.toList_extract, List.extract, List.map_take, List.map_drop]
theorem bts_lt {s : ByteArray} {x : Nat} (h : x ∈ bts s) : x < 256 := by
  obtain ⟨y, _, rfl⟩ := List.mem_map.1 h
  exact y.toNat_lt
theorem bts_inj {a b : ByteArray} (h : bts a = bts b) : a = b := by
  have hi : Function.Injective UInt8.toNat := fun x y h => UInt8.toNat_inj.1 h
  have := (List.map_inj_right (fun x y h => hi h)).1 h
  apply ByteArray.ext
  exact Array.ext' this
theorem bts_eq {a b : ByteArray} : (a.toList == b.toList) = decide (bts a = bts b) := by
  rw [Bool.eq_iff_iff, beq_iff_eq, decide_eq_true_eq, ByteArray.toList_eq, ByteArray.toList_eq]
  exact ⟨fun h => by unfold bts; rw [h], fun h => by rw [bts_inj h]⟩
theorem bts_mk (l : List UInt8) : bts ⟨l.toArray⟩ = l.map UInt8.toNat := by simp [bts]

/-- A byte of a word. -/
def wb (c : Nat) : Bool := decide (33 ≤ c) && decide (c ≤ 126) && decide (c ≠ 35)
theorem wb_iff {c : Nat} : wb c = true ↔ 33 ≤ c ∧ c ≤ 126 ∧ c ≠ 35 := by simp [wb, and_assoc]
theorem wb_not {c : Nat} : wb c = false ↔ c < 33 ∨ 126 < c ∨ c = 35 := by
  have := wb_iff (c := c)
  cases h : wb c
  · simp [h] at this ⊢; omega
  · simp [h] at this ⊢; omega
structure Wd where
  a : Nat
  b : Nat
  line : Nat
  col : Int
inductive Res where
  | ok (l : List Wd)
  | bad (line : Nat)
def flush (st : Option Nat) (i line bg : Nat) (out : List Wd) : List Wd :=
  match st with
  | none => out
  | some a => out ++ [⟨a, i, line, (a : Int) - bg + 1⟩]
/-- What chapter 6 finds in the bytes l, which begin at place i: the line, the place where it begins, whether this is a comment, where the word began in which this is, and the words so far. -/
def run : List Nat → Nat → Nat → Nat → Bool → Option Nat → List Wd → Res
  | [], i, line, bg, _, st, out => .ok (flush st i line bg out)
  | c :: l, i, line, bg, com, st, out =>
    if com = false ∧ wb c = true then run l (i + 1) line bg false (some (st.getD i)) out
    else if c = 10 then run l (i + 1) (line + 1) (i + 1) false none (flush st i line bg out)
    else if com = true then run l (i + 1) line bg true none (flush st i line bg out)
    else if c = 35 then run l (i + 1) line bg true none (flush st i line bg out)
    else if c = 32 ∨ c = 9 then run l (i + 1) line bg false none (flush st i line bg out)
    else .bad line
section
variable {c i line bg : Nat} {l : List Nat} {out : List Wd} {st : Option Nat} {com : Bool}
theorem run_word (h : wb c = true) : run (c :: l) i line bg false st out = run l (i + 1) line bg false (some (st.getD i)) out := by rw [run, if_pos ⟨rfl, h⟩]
theorem run_line (h : c = 10) : run (c :: l) i line bg com st out = run l (i + 1) (line + 1) (i + 1) false none (flush st i line bg out) := by
  subst h; rw [run, if_neg (by simp [wb]), if_pos rfl]
theorem run_com (h : c ≠ 10) : run (c :: l) i line bg true st out = run l (i + 1) line bg true none (flush st i line bg out) := by
  rw [run, if_neg (by simp), if_neg h, if_pos rfl]
theorem run_hash (h : c = 35) : run (c :: l) i line bg false st out = run l (i + 1) line bg true none (flush st i line bg out) := by
  subst h; rw [run, if_neg (by simp [wb]), if_neg (by decide), if_neg (by decide), if_pos rfl]
theorem run_gap (h : c = 32 ∨ c = 9) : run (c :: l) i line bg false st out = run l (i + 1) line bg false none (flush st i line bg out) := by
  rw [run, if_neg (by rcases h with h | h <;> subst h <;> simp [wb]), if_neg (by omega), if_neg (by decide), if_neg (by omega), if_pos h]
theorem run_bad (h0 : wb c = false) (h1 : c ≠ 10) (h2 : c ≠ 35) (h3 : c ≠ 32) (h4 : c ≠ 9) : run (c :: l) i line bg false st out = .bad line := by
  rw [run, if_neg (by simp [h0]), if_neg h1, if_neg (by decide), if_neg h2, if_neg (by omega)]
/-- A word ends ahead of a byte that is none of a word. -/
theorem run_flush (h : com = true ∨ ∀ c m, l = c :: m → wb c = false) : run l i line bg com st out = run l i line bg com none (flush st i line bg out) := by
  cases l with
  | nil => cases st <;> rfl
  | cons c l =>
    have hc : ¬ (com = false ∧ wb c = true) := by
      rintro ⟨h1, h2⟩
      rcases h with h | h
      · rw [h] at h1; cases h1
      · rw [h c l rfl] at h2; cases h2
    rw [run, if_neg hc, run, if_neg hc]
    cases st <;> rfl
/-- Bytes beyond ASCII change nothing within a comment. -/
theorem run_skip {m : List Nat} (h : ∀ x ∈ m, x ≠ 10) : run (m ++ l) i line bg true none out = run l (i + m.length) line bg true none out := by
  induction m generalizing i with
  | nil => rfl
  | cons c m ih =>
    rw [List.cons_append, run_com (h c (by simp))]
    show run (m ++ l) (i + 1) line bg true none out = _
    rw [ih (fun x hx => h x (by simp [hx]))]
    congr 1
    simp; omega
/-- A whole word. -/
theorem run_words {m : List Nat} (h : ∀ x ∈ m, wb x = true) (hm : m ≠ []) : run (m ++ l) i line bg false none out = run l (i + m.length) line bg false (some i) out := by
  have key : ∀ (m : List Nat) (i a : Nat), (∀ x ∈ m, wb x = true) → run (m ++ l) i line bg false (some a) out = run l (i + m.length) line bg false (some a) out := by
    intro m
    induction m with
    | nil => intros; rfl
    | cons c m ih =>
      intro i a h
      rw [List.cons_append, run_word (h c (by simp))]
      show run (m ++ l) (i + 1) line bg false (some a) out = _
      rw [ih _ _ (fun x hx => h x (by simp [hx]))]
      congr 1
      simp; omega
  cases m with
  | nil => exact absurd rfl hm
  | cons c m =>
    rw [List.cons_append, run_word (h c (by simp))]
    show run (m ++ l) (i + 1) line bg false (some i) out = _
    rw [key _ _ _ (fun x hx => h x (by simp [hx]))]
    congr 1
    simp; omega
end
/-- What Split finds. -/
def splitS (s : ByteArray) : Res := if 16384 < s.size then .bad 0 else run (bts s) 0 1 0 false none []
theorem bad_pos {l : List Nat} {i line bg : Nat} {com : Bool} {st : Option Nat} {out : List Wd} {k : Nat} (h : run l i line bg com st out = .bad k) : line ≤ k := by
  induction l generalizing i line bg com st out with
  | nil => simp [run] at h
  | cons c l ih =>
    rw [run] at h
    split at h
    · exact ih h
    · split at h
      · have := ih h; omega
      · split at h
        · exact ih h
        · split at h
          · exact ih h
          · split at h
            · exact ih h
            · cases h; exact Nat.le_refl _

/-- The line of place i, and where it begins. -/
def lineOf (l : List Nat) (i : Nat) : Nat := 1 + (l.take i).count 10
def bgOf (l : List Nat) : Nat → Nat
  | 0 => 0
  | i + 1 => if l[i]? = some 10 then i + 1 else bgOf l i
theorem bgOf_le (l : List Nat) (i : Nat) : bgOf l i ≤ i := by
  induction i with
  | zero => exact Nat.le_refl _
  | succ i ih => rw [bgOf]; split <;> omega
theorem lineOf_zero (l : List Nat) : lineOf l 0 = 1 := by simp [lineOf]
theorem lineOf_succ (l : List Nat) {i : Nat} (h : i < l.length) : lineOf l (i + 1) = lineOf l i + if l[i] = 10 then 1 else 0 := by
  unfold lineOf
  rw [List.take_succ_eq_append_getElem h, List.count_append, List.count_singleton]
  by_cases e : l[i] = 10 <;> simp [e] <;> omega
theorem bgOf_succ (l : List Nat) {i : Nat} (h : i < l.length) : bgOf l (i + 1) = if l[i] = 10 then i + 1 else bgOf l i := by
  rw [bgOf, List.getElem?_eq_getElem h]; simp
theorem lineOf_mono (l : List Nat) {i j : Nat} (h : i ≤ j) : lineOf l i ≤ lineOf l j := by
  unfold lineOf
  have : (l.take i).Sublist (l.take j) := by
    have e : l.take i = (l.take j).take i := by rw [List.take_take, Nat.min_eq_left h]
    rw [e]; exact List.take_sublist _ _
  have := this.count_le 10
  omega
/-- Places of one line have one beginning. -/
theorem bg_line (l : List Nat) {i j : Nat} (h : i ≤ j) (hj : j ≤ l.length) (e : lineOf l i = lineOf l j) : bgOf l i = bgOf l j := by
  induction j with
  | zero => have : i = 0 := by omega
            subst this; rfl
  | succ j ih =>
    by_cases hij : i = j + 1
    · subst hij; rfl
    · have hjl : j < l.length := by omega
      have h1 := lineOf_mono l (show i ≤ j by omega)
      have h2 := lineOf_succ l hjl
      by_cases hc : l[j] = 10
      · rw [if_pos hc] at h2; omega
      · rw [if_neg hc] at h2
        rw [bgOf_succ l hjl, if_neg hc]
        exact ih (by omega) (by omega) (by omega)
/-- Line and column name a place. -/
theorem place_one (l : List Nat) {i j : Nat} (hi : i ≤ l.length) (hj : j ≤ l.length) (e : lineOf l i = lineOf l j) (c : (i : Int) - bgOf l i = (j : Int) - bgOf l j) : i = j := by
  rcases Nat.le_total i j with h | h
  · have := bg_line l h hj e; omega
  · have := bg_line l h hi e.symm; omega
/-- Where a word stands. -/
def Wd.Good (L : List Nat) (w : Wd) : Prop := w.a < w.b ∧ w.b ≤ L.length ∧ w.line = lineOf L w.a ∧ w.col = (w.a : Int) - bgOf L w.a + 1
def Words (L : List Nat) (out : List Wd) (i : Nat) : Prop := (∀ w ∈ out, w.Good L ∧ w.b ≤ i) ∧ out.Pairwise (fun x y => x.a < y.a)
theorem words_nil (L : List Nat) (i : Nat) : Words L [] i := ⟨by simp, List.Pairwise.nil⟩
theorem words_up {L : List Nat} {out : List Wd} {i j : Nat} (h : Words L out i) (hij : i ≤ j) : Words L out j := ⟨fun w hw => ⟨(h.1 w hw).1, by have := (h.1 w hw).2; omega⟩, h.2⟩
theorem words_add {L : List Nat} {out : List Wd} {a i : Nat} (h : Words L out a) (ha : a < i) (hi : i ≤ L.length) :
    Words L (out ++ [⟨a, i, lineOf L a, (a : Int) - bgOf L a + 1⟩]) i := by
  refine ⟨fun w hw => ?_, ?_⟩
  · rcases List.mem_append.1 hw with hw | hw
    · exact ⟨(h.1 w hw).1, by have := (h.1 w hw).2; omega⟩
    · simp at hw; subst hw; exact ⟨⟨ha, hi, rfl, rfl⟩, Nat.le_refl _⟩
  · rw [List.pairwise_append]
    refine ⟨h.2, List.pairwise_singleton _ _, fun x hx y hy => ?_⟩
    simp at hy; subst hy
    have h1 := (h.1 x hx).1.1
    have h2 := (h.1 x hx).2
    show x.a < a
    omega
/-- The words that are found stand at their places, in order. -/
theorem run_good (L : List Nat) : ∀ (l : List Nat) (i : Nat) (com : Bool) (st : Option Nat) (out W : List Wd), l = L.drop i → i ≤ L.length →
    (∀ a, st = some a → a < i ∧ lineOf L a = lineOf L i ∧ Words L out a) → (st = none → Words L out i) → run l i (lineOf L i) (bgOf L i) com st out = .ok W → Words L W L.length := by
  have hf : ∀ (i : Nat) (st : Option Nat) (out : List Wd), i ≤ L.length → (∀ a, st = some a → a < i ∧ lineOf L a = lineOf L i ∧ Words L out a) → (st = none → Words L out i) → Words L (flush st i (lineOf L i) (bgOf L i) out) i := by
    intro i st out hi hs hn
    cases st with
    | none => exact hn rfl
    | some a =>
      obtain ⟨h1, h2, h3⟩ := hs a rfl
      have h4 := bg_line L (show a ≤ i by omega) hi h2
      show Words L (out ++ [⟨a, i, lineOf L i, (a : Int) - bgOf L i + 1⟩]) i
      rw [← h2, ← h4]
      exact words_add h3 h1 hi
  intro l
  induction l with
  | nil =>
    intro i com st out W hl hi hs hn hr
    have hlen : L.length ≤ i := by
      have := congrArg List.length hl
      simp at this; omega
    have e : i = L.length := by omega
    simp [run] at hr
    subst hr
    rw [← e]
    exact hf i st out hi hs hn
  | cons c l ih =>
    intro i com st out W hl hi hs hn hr
    have hlt : i < L.length := by
      rcases Nat.lt_or_ge i L.length with h | h
      · exact h
      · rw [List.drop_of_length_le h] at hl; cases hl
    rw [List.drop_eq_getElem_cons hlt] at hl
    injection hl with hc hl'
    have lk := lineOf_succ L hlt
    have bk := bgOf_succ L hlt
    rw [← hc] at lk bk
    have H := hf i st out hi hs hn
    rw [run] at hr
    split at hr
    · rename_i hw
      have hc10 : c ≠ 10 := by rintro rfl; simp [wb] at hw
      rw [if_neg hc10] at lk bk
      replace lk : lineOf L (i + 1) = lineOf L i := lk
      rw [← lk, ← bk] at hr
      refine ih _ _ _ _ _ hl' (by omega) (fun a ha => ?_) (fun h => by cases h) hr
      cases st with
      | none => simp at ha; subst ha; exact ⟨by omega, by rw [lk], hn rfl⟩
      | some b => simp at ha; subst ha; exact ⟨by have := (hs b rfl).1; omega, by rw [lk]; exact (hs b rfl).2.1, (hs b rfl).2.2⟩
    · split at hr
      · rename_i h10
        rw [if_pos h10] at lk bk
        rw [← lk] at hr
        exact ih (i + 1) false none (flush st i (lineOf L i) (bgOf L i) out) W hl' (by omega) (fun a ha => by cases ha) (fun _ => words_up H (show i ≤ i + 1 by omega)) (by rw [bk]; exact hr)
      · rename_i h10
        rw [if_neg h10] at lk bk
        replace lk : lineOf L (i + 1) = lineOf L i := lk
        rw [← lk, ← bk] at hr
        split at hr
        · exact ih _ _ _ _ _ hl' (by omega) (fun a ha => by cases ha) (fun _ => words_up (by rw [lk, bk]; exact H) (show i ≤ i + 1 by omega)) hr
        · split at hr
          · exact ih _ _ _ _ _ hl' (by omega) (fun a ha => by cases ha) (fun _ => words_up (by rw [lk, bk]; exact H) (show i ≤ i + 1 by omega)) hr
          · split at hr
            · exact ih _ _ _ _ _ hl' (by omega) (fun a ha => by cases ha) (fun _ => words_up (by rw [lk, bk]; exact H) (show i ≤ i + 1 by omega)) hr
            · cases hr
theorem split_good {s : ByteArray} {W : List Wd} (h : splitS s = .ok W) : Words (bts s) W s.size := by
  unfold splitS at h
  split at h
  · cases h
  · rw [← bts_len]
    exact run_good (bts s) (bts s) 0 false none [] W rfl (Nat.zero_le _) (fun a ha => by cases ha) (fun _ => words_nil _ _) (by simpa [lineOf, bgOf] using h)
end Go.Proofs.YtpaiapcnoifpmaaDoor
namespace Go.Proofs.YtpaiapcnoifpmaaDoor
open Go.RowKit

theorem at_get (s : ByteArray) (k : Nat) (h : k < s.size) : s.get! k = s[k]'h := by
  simp [ByteArray.get!, getElem!_pos, h]
  rfl
/-- A rune that is no ASCII stands in bytes that are none. -/
theorem decode_span (s : ByteArray) (pos : Nat) (h : pos < s.size) (ha : 128 ≤ (s[pos]'h).toNat) :
    128 ≤ (Utf8.decode s pos).1 ∧ 1 ≤ (Utf8.decode s pos).2 ∧ pos + (Utf8.decode s pos).2 ≤ s.size ∧ ∀ k (hk : k < s.size), pos ≤ k → k < pos + (Utf8.decode s pos).2 → 128 ≤ (s[k]'hk).toNat := by
  obtain ⟨h1, h2⟩ := decode_high s pos h ha
  refine ⟨h1, h2, ?_⟩
  have g0 : (s.get! (pos + 0)).toNat = (s[pos]'h).toNat := by rw [Nat.add_zero, at_get s pos h]
  have hn : ¬ (s[pos]'h).toNat < 128 := by omega
  have key : ∀ m, (Utf8.decode s pos).2 = m → pos + m ≤ s.size ∧ ∀ k (hk : k < s.size), pos ≤ k → k < pos + m → 128 ≤ (s[k]'hk).toNat := by
    intro m hm
    have one : m = 1 → pos + m ≤ s.size ∧ ∀ k (hk : k < s.size), pos ≤ k → k < pos + m → 128 ≤ (s[k]'hk).toNat := by
      rintro rfl
      refine ⟨by omega, fun k hk h1 h2 => ?_⟩
      have : k = pos := by omega
      subst this; exact ha
    have ct : ∀ j, (decide (pos + j < s.size) && (s.get! (pos + j)).toNat / 64 == 2) = true → ∃ hj : pos + j < s.size, 128 ≤ (s[pos + j]'hj).toNat := by
      intro j hj
      simp only [Bool.and_eq_true, decide_eq_true_eq, beq_iff_eq] at hj
      refine ⟨hj.1, ?_⟩
      rw [← at_get s _ hj.1]; omega
    have two : m = 2 → (decide (pos + 1 < s.size) && (s.get! (pos + 1)).toNat / 64 == 2) = true → pos + m ≤ s.size ∧ ∀ k (hk : k < s.size), pos ≤ k → k < pos + m → 128 ≤ (s[k]'hk).toNat := by
      rintro rfl c1
      obtain ⟨e1, f1⟩ := ct 1 c1
      refine ⟨by omega, fun k hk h1 h2 => ?_⟩
      rcases (show k = pos ∨ k = pos + 1 by omega) with rfl | rfl
      · exact ha
      · exact f1
    have three : m = 3 → (decide (pos + 1 < s.size) && (s.get! (pos + 1)).toNat / 64 == 2) = true → (decide (pos + 2 < s.size) && (s.get! (pos + 2)).toNat / 64 == 2) = true → pos + m ≤ s.size ∧ ∀ k (hk : k < s.size), pos ≤ k → k < pos + m → 128 ≤ (s[k]'hk).toNat := by
      rintro rfl c1 c2
      obtain ⟨e1, f1⟩ := ct 1 c1
      obtain ⟨e2, f2⟩ := ct 2 c2
      refine ⟨by omega, fun k hk h1 h2 => ?_⟩
      rcases (show k = pos ∨ k = pos + 1 ∨ k = pos + 2 by omega) with rfl | rfl | rfl
      · exact ha
      · exact f1
      · exact f2
    have four : m = 4 → (decide (pos + 1 < s.size) && (s.get! (pos + 1)).toNat / 64 == 2) = true → (decide (pos + 2 < s.size) && (s.get! (pos + 2)).toNat / 64 == 2) = true → (decide (pos + 3 < s.size) && (s.get! (pos + 3)).toNat / 64 == 2) = true → pos + m ≤ s.size ∧ ∀ k (hk : k < s.size), pos ≤ k → k < pos + m → 128 ≤ (s[k]'hk).toNat := by
      rintro rfl c1 c2 c3
      obtain ⟨e1, f1⟩ := ct 1 c1
      obtain ⟨e2, f2⟩ := ct 2 c2
      obtain ⟨e3, f3⟩ := ct 3 c3
      refine ⟨by omega, fun k hk h1 h2 => ?_⟩
      rcases (show k = pos ∨ k = pos + 1 ∨ k = pos + 2 ∨ k = pos + 3 by omega) with rfl | rfl | rfl | rfl
      · exact ha
      · exact f1
      · exact f2
      · exact f3
    clear ct
    simp only [Utf8.decode, g0, hn, if_false] at hm
    split at hm
    · rename_i hc
      rw [Bool.and_eq_true] at hc
      split at hm
      · exact two hm.symm hc.2
      · exact one hm.symm
    · split at hm
      · rename_i hc
        rw [Bool.and_eq_true, Bool.and_eq_true] at hc
        split at hm
        · exact three hm.symm hc.1.2 hc.2
        · exact one hm.symm
      · split at hm
        · rename_i hc
          rw [Bool.and_eq_true, Bool.and_eq_true, Bool.and_eq_true] at hc
          split at hm
          · exact four hm.symm hc.1.1.2 hc.1.2 hc.2
          · exact one hm.symm
        · exact one hm.symm
  exact key _ rfl
/-- A rune that is no ASCII, in a comment. -/
theorem run_high_com {s : ByteArray} {pos w line bg : Nat} {out : List Wd} (hw : pos + w ≤ s.size) (hb : ∀ k (hk : k < s.size), pos ≤ k → k < pos + w → 128 ≤ (s[k]'hk).toNat) :
    run ((bts s).drop pos) pos line bg true none out = run ((bts s).drop (pos + w)) (pos + w) line bg true none out := by
  have e : (bts s).drop pos = ((bts s).drop pos).take w ++ (bts s).drop (pos + w) := by
    rw [← List.drop_drop, List.take_append_drop]
  have hl : (((bts s).drop pos).take w).length = w := by rw [List.length_take, List.length_drop, bts_len]; omega
  rw [e, run_skip, hl]
  intro x hx
  obtain ⟨j, hj, rfl⟩ := List.getElem_of_mem hx
  rw [hl] at hj
  rw [List.getElem_take, List.getElem_drop, bts_get s (by omega)]
  have := hb (pos + j) (by omega) (by omega) (by omega)
  omega
/-- .. and outside of one. -/
theorem run_high_bad {s : ByteArray} {pos line bg : Nat} {st : Option Nat} {out : List Wd} (h : pos < s.size) (ha : 128 ≤ (s[pos]'h).toNat) : run ((bts s).drop pos) pos line bg false st out = .bad line := by
  rw [bts_drop s h]
  exact run_bad (wb_not.2 (by omega)) (by omega) (by omega) (by omega) (by omega)
end Go.Proofs.YtpaiapcnoifpmaaDoor
namespace Go.Proofs.YtpaiapcnoifpmaaDoor
open Go.RowKit

def isd (c : Nat) : Bool := decide (48 ≤ c) && decide (c ≤ 57)
theorem isd_iff {c : Nat} : isd c = true ↔ 48 ≤ c ∧ c ≤ 57 := by simp [isd]
theorem isd_not {c : Nat} : isd c = false ↔ c < 48 ∨ 57 < c := by
  have := isd_iff (c := c)
  cases h : isd c
  · simp [h] at this ⊢; omega
  · simp [h] at this ⊢; omega
/-- How many digits l begins with, n of them being read with the value v; of the first fifteen the value. -/
def digS : List Nat → Nat → Nat → Nat × Nat
  | [], n, v => (n, v)
  | c :: l, n, v => if isd c = true then digS l (n + 1) (if n < 15 then 10 * v + (c - 48) else v) else (n, v)
theorem digS_yes {c : Nat} {l : List Nat} {n v : Nat} (h : isd c = true) : digS (c :: l) n v = digS l (n + 1) (if n < 15 then 10 * v + (c - 48) else v) := by rw [digS, if_pos h]
theorem digS_no {c : Nat} {l : List Nat} {n v : Nat} (h : isd c = false) : digS (c :: l) n v = (n, v) := by rw [digS, if_neg (by simp [h])]
theorem digS_le (l : List Nat) (n v : Nat) : n ≤ (digS l n v).1 ∧ (digS l n v).1 ≤ n + l.length := by
  induction l generalizing n v with
  | nil => exact ⟨Nat.le_refl _, Nat.le_refl _⟩
  | cons c l ih =>
    rw [digS]
    split
    · have := ih (n + 1) (if n < 15 then 10 * v + (c - 48) else v)
      simp only [List.length_cons]; omega
    · simp
/-- The step of a value of digits keeps it small. -/
theorem dig_step {n v c : Nat} (hc : isd c = true) (h : v < 10 ^ min n 15) : (if n < 15 then 10 * v + (c - 48) else v) < 10 ^ min (n + 1) 15 := by
  have := isd_iff.1 hc
  by_cases hn : n < 15
  · rw [if_pos hn]
    rw [Nat.min_eq_left (by omega)] at h ⊢
    rw [Nat.pow_succ]; omega
  · rw [if_neg hn]
    rw [Nat.min_eq_right (by omega)] at h ⊢
    exact h
theorem digS_lt (l : List Nat) (n v : Nat) (h : v < 10 ^ min n 15) : (digS l n v).2 < 10 ^ min (digS l n v).1 15 := by
  induction l generalizing n v with
  | nil => exact h
  | cons c l ih =>
    rw [digS]
    split
    · rename_i hc; exact ih _ _ (dig_step hc h)
    · exact h
theorem pow15 : (10 : Nat) ^ 15 = 1000000000000000 := by decide
theorem pow_le15 (n : Nat) : (10 : Nat) ^ min n 15 ≤ 1000000000000000 := by
  rw [← pow15]; exact Nat.pow_le_pow_right (by decide) (Nat.min_le_right _ _)
def valD (l : List Nat) : Nat := l.foldl (fun v c => 10 * v + (c - 48)) 0
theorem valD_snoc (l : List Nat) (c : Nat) : valD (l ++ [c]) = 10 * valD l + (c - 48) := by simp [valD]
/-- Digits, and then none. -/
theorem digS_of {m l : List Nat} (hm : ∀ x ∈ m, isd x = true) (hl : ∀ c u, l = c :: u → isd c = false) (h15 : m.length ≤ 15) : digS (m ++ l) 0 0 = (m.length, valD m) := by
  have key : ∀ (m : List Nat) (n v : Nat), (∀ x ∈ m, isd x = true) → n + m.length ≤ 15 → digS (m ++ l) n v = (n + m.length, m.foldl (fun v c => 10 * v + (c - 48)) v) := by
    intro m
    induction m with
    | nil =>
      intro n v _ _
      cases l with
      | nil => rfl
      | cons c u => exact digS_no (hl c u rfl)
    | cons c m ih =>
      intro n v h hn
      simp only [List.length_cons] at hn
      rw [List.cons_append, digS_yes (h c (by simp)), if_pos (by omega)]
      show digS (m ++ l) (n + 1) (10 * v + (c - 48)) = _
      rw [ih _ _ (fun x hx => h x (by simp [hx])) (by omega)]
      simp only [List.length_cons, List.foldl_cons]
      congr 1
      omega
  have := key m 0 0 hm (by omega)
  rw [this]; simp [valD]
theorem digS_nil {m : List Nat} (hm : ∀ x ∈ m, isd x = true) (h15 : m.length ≤ 15) : digS m 0 0 = (m.length, valD m) := by
  have := digS_of (l := []) hm (fun c u h => by cases h) h15
  rwa [List.append_nil] at this
/-- What was read were digits. -/
theorem digS_take (l : List Nat) : ∀ n v, ∀ x ∈ l.take ((digS l n v).1 - n), isd x = true := by
  induction l with
  | nil => simp
  | cons c l ih =>
    intro n v x hx
    rw [digS] at hx
    split at hx
    · rename_i hc
      have hle := (digS_le l (n + 1) (if n < 15 then 10 * v + (c - 48) else v)).1
      obtain ⟨k, hk⟩ : ∃ k, (digS l (n + 1) (if n < 15 then 10 * v + (c - 48) else v)).1 - n = k + 1 := ⟨(digS l (n + 1) (if n < 15 then 10 * v + (c - 48) else v)).1 - n - 1, by omega⟩
      rw [hk, List.take_succ_cons] at hx
      rcases List.mem_cons.1 hx with rfl | hx
      · exact hc
      · refine ih (n + 1) (if n < 15 then 10 * v + (c - 48) else v) x ?_
        have : (digS l (n + 1) (if n < 15 then 10 * v + (c - 48) else v)).1 - (n + 1) = k := by omega
        rw [this]; exact hx
    · simp at hx
theorem digS_stop (l : List Nat) : ∀ n v, ∀ c u, l.drop ((digS l n v).1 - n) = c :: u → isd c = false := by
  induction l with
  | nil => simp
  | cons c l ih =>
    intro n v d u hx
    rw [digS] at hx
    split at hx
    · rename_i hc
      have hle := (digS_le l (n + 1) (if n < 15 then 10 * v + (c - 48) else v)).1
      obtain ⟨k, hk⟩ : ∃ k, (digS l (n + 1) (if n < 15 then 10 * v + (c - 48) else v)).1 - n = k + 1 := ⟨(digS l (n + 1) (if n < 15 then 10 * v + (c - 48) else v)).1 - n - 1, by omega⟩
      rw [hk, List.drop_succ_cons] at hx
      refine ih (n + 1) (if n < 15 then 10 * v + (c - 48) else v) d u ?_
      have : (digS l (n + 1) (if n < 15 then 10 * v + (c - 48) else v)).1 - (n + 1) = k := by omega
      rw [this]; exact hx
    · rename_i hc
      simp at hx
      obtain ⟨rfl, _⟩ := hx
      simpa using hc
/-- A sign ahead of a number. -/
def sgnB (l : List Nat) : Bool := match l with | c :: _ => decide (c = 45) | [] => false
def sgnT (l : List Nat) : List Nat := if sgnB l = true then l.tail else l
def finN (neg : Bool) (v : Nat) : Option Int := if 2147483648 < v then none else some (if neg = true then -(v : Int) else v)
def fracN (neg : Bool) (w : Nat) (u : List Nat) : Option Int :=
  match u with
  | [] => finN neg (w * 65536)
  | c :: u => if c ≠ 46 ∨ (digS u 0 0).1 < 1 ∨ 6 < (digS u 0 0).1 ∨ (digS u 0 0).1 ≠ u.length then none
    else finN neg (w * 65536 + (2 * (digS u 0 0).2 * 65536 + 10 ^ (digS u 0 0).1) / (2 * 10 ^ (digS u 0 0).1))
def numT (neg : Bool) (t : List Nat) : Option Int := if (digS t 0 0).1 < 1 ∨ 5 < (digS t 0 0).1 then none else fracN neg (digS t 0 0).2 (t.drop (digS t 0 0).1)
/-- The fixed-point number that a text denotes. -/
def numS (l : List Nat) : Option Int := numT (sgnB l) (sgnT l)
def intT (neg : Bool) (t : List Nat) : Option Int := if (digS t 0 0).1 < 1 ∨ 15 < (digS t 0 0).1 ∨ (digS t 0 0).1 ≠ t.length then none else some (if neg = true then -((digS t 0 0).2 : Int) else (digS t 0 0).2)
/-- The integer that a text denotes. -/
def intS (l : List Nat) : Option Int := intT (sgnB l) (sgnT l)
def low (c : Nat) : Bool := decide (97 ≤ c) && decide (c ≤ 122)
def nameB (c : Nat) : Bool := low c || (decide (c = 95) || isd c)
def worldL : List Nat := [119, 111, 114, 108, 100]
/-- Whether a text is a name. -/
def nameS (l : List Nat) : Bool := decide (1 ≤ l.length) && (decide (l.length ≤ 16) && (!decide (l = worldL) && (low (l.headD 0) && l.all nameB)))
def outI (o : Option Int) : Int := o.getD 0
def outB (o : Option Int) : Bool := o.isSome

/-- The last m digits of n. -/
def decD : Nat → Nat → List Nat
  | 0, _ => []
  | m + 1, n => decD m (n / 10) ++ [48 + n % 10]
theorem decD_len (m n : Nat) : (decD m n).length = m := by
  induction m generalizing n with
  | zero => rfl
  | succ m ih => rw [decD, List.length_append, ih]; rfl
theorem decD_dig (m n : Nat) : ∀ x ∈ decD m n, isd x = true := by
  induction m generalizing n with
  | zero => intro x hx; cases hx
  | succ m ih =>
    intro x hx
    rw [decD] at hx
    rcases List.mem_append.1 hx with hx | hx
    · exact ih _ x hx
    · simp at hx; subst hx; exact isd_iff.2 (by omega)
theorem decD_val (m n : Nat) (h : n < 10 ^ m) : valD (decD m n) = n := by
  induction m generalizing n with
  | zero => simp at h; subst h; rfl
  | succ m ih => rw [decD, valD_snoc, ih _ (by rw [Nat.pow_succ] at h; omega)]; omega
/-- A digit ahead. -/
theorem decD_cons (m n : Nat) : decD (m + 1) n = (48 + n / 10 ^ m % 10) :: decD m n := by
  induction m generalizing n with
  | zero => simp [decD]
  | succ m ih =>
    rw [decD, ih, decD, List.cons_append, Nat.div_div_eq_div_mul]
    congr 4
    rw [Nat.pow_succ, Nat.mul_comm]
/-- j is the number of digits of n that are written if at least k are wanted. -/
def DecLen (n k j : Nat) : Prop := n < 10 ^ j ∧ k ≤ j ∧ (j = k ∨ (1 ≤ j ∧ 10 ^ (j - 1) ≤ n))
theorem decLen_one {n k i j : Nat} (hi : DecLen n k i) (hj : DecLen n k j) : i = j := by
  have key : ∀ {i j : Nat}, DecLen n k i → DecLen n k j → i ≤ j := by
    intro i j hi hj
    rcases hi.2.2 with h | ⟨h1, h⟩
    · have := hj.2.1; omega
    · apply Decidable.byContradiction
      intro hc
      have h2 : 10 ^ j ≤ 10 ^ (i - 1) := Nat.pow_le_pow_right (by decide) (by omega)
      have := hj.1; omega
  exact Nat.le_antisymm (key hi hj) (key hj hi)
/-- The digits of n, k at least. -/
def decN (n k : Nat) : Nat := if n < 10 ^ k then k else (List.range 40).find? (fun j => decide (k ≤ j) && decide (n < 10 ^ j)) |>.getD 0
theorem decLen_five {n : Nat} (h : n ≤ 99999) : ∃ j, DecLen n 1 j ∧ 1 ≤ j ∧ j ≤ 5 := by
  by_cases h1 : n < 10
  · exact ⟨1, ⟨by simpa using h1, by decide, .inl rfl⟩, by decide, by decide⟩
  · by_cases h2 : n < 100
    · exact ⟨2, ⟨by simpa using h2, by decide, .inr ⟨by decide, by simpa using (by omega : 10 ≤ n)⟩⟩, by decide, by decide⟩
    · by_cases h3 : n < 1000
      · exact ⟨3, ⟨by simpa using h3, by decide, .inr ⟨by decide, by simpa using (by omega : 100 ≤ n)⟩⟩, by decide, by decide⟩
      · by_cases h4 : n < 10000
        · exact ⟨4, ⟨by simpa using h4, by decide, .inr ⟨by decide, by simpa using (by omega : 1000 ≤ n)⟩⟩, by decide, by decide⟩
        · exact ⟨5, ⟨by simpa using (by omega : n < 100000), by decide, .inr ⟨by decide, by simpa using (by omega : 10000 ≤ n)⟩⟩, by decide, by decide⟩
/-- A list without the zeros at its end. -/
def trimZ (l : List Nat) : List Nat := (l.reverse.dropWhile (fun c => decide (c = 48))).reverse
theorem trimZ_zero (l : List Nat) : trimZ (l ++ [48]) = trimZ l := by simp [trimZ]
theorem trimZ_other (l : List Nat) {c : Nat} (h : c ≠ 48) : trimZ (l ++ [c]) = l ++ [c] := by simp [trimZ, h]
theorem trimZ_take (l : List Nat) : ∃ k, k ≤ l.length ∧ trimZ l = l.take k ∧ (∀ x ∈ l.drop k, x = 48) := by
  induction hn : l.length using Nat.strongRecOn generalizing l with
  | _ n ih =>
    rcases List.eq_nil_or_concat l with rfl | ⟨m, c, rfl⟩
    · exact ⟨0, by omega, rfl, by simp⟩
    · rw [List.concat_eq_append] at *
      by_cases hc : c = 48
      · subst hc
        obtain ⟨k, h1, h2, h3⟩ := ih m.length (by simp at hn; omega) m rfl
        refine ⟨k, by simp at hn; omega, by rw [trimZ_zero, h2, List.take_append_of_le_length h1], fun x hx => ?_⟩
        rw [List.drop_append_of_le_length h1] at hx
        rcases List.mem_append.1 hx with hx | hx
        · exact h3 x hx
        · simpa using hx
      · exact ⟨(m ++ [c]).length, by omega, by rw [trimZ_other m hc, List.take_length], by simp⟩
theorem valD_zeros (l : List Nat) (m : List Nat) (h : ∀ x ∈ m, x = 48) : valD (l ++ m) = valD l * 10 ^ m.length := by
  induction m generalizing l with
  | nil => simp
  | cons c m ih =>
    have hc : c = 48 := h c (by simp)
    subst hc
    rw [show l ++ 48 :: m = (l ++ [48]) ++ m by simp, ih _ (fun x hx => h x (by simp [hx])), valD_snoc, List.length_cons, Nat.pow_succ]
    simp only [Nat.sub_self, Nat.add_zero]
    rw [Nat.mul_comm 10, Nat.mul_assoc, Nat.mul_comm 10]
def fracQ (f : Nat) : Nat := (2 * f * 100000 + 65536) / 131072
/-- The text of the digits behind the point, with the point. -/
def fracS (f : Nat) : List Nat := if f = 0 then [] else 46 :: trimZ (decD 5 (fracQ f))
/-- l is the text of x, from -Max to Max. -/
def FmtOf (x : Int) (l : List Nat) : Prop := ∃ j, DecLen (x.natAbs / 65536) 1 j ∧ l = (if x < 0 then [45] else []) ++ decD j (x.natAbs / 65536) ++ fracS (x.natAbs % 65536)
theorem fmt_one {x : Int} {l m : List Nat} (hl : FmtOf x l) (hm : FmtOf x m) : l = m := by
  obtain ⟨i, hi, rfl⟩ := hl
  obtain ⟨j, hj, rfl⟩ := hm
  rw [decLen_one hi hj]
theorem sgn_neg (l : List Nat) : sgnB (45 :: l) = true ∧ sgnT (45 :: l) = l := by simp [sgnB, sgnT]
theorem sgn_pos {l : List Nat} {c : Nat} {u : List Nat} (h : l = c :: u) (hc : c ≠ 45) : sgnB l = false ∧ sgnT l = l := by subst h; simp [sgnB, sgnT, hc]
/-- A number of j digits and the digits behind the point. -/
theorem numT_of {neg : Bool} {j m : Nat} {r : List Nat} (hm : m < 10 ^ j) (h1 : 1 ≤ j) (h5 : j ≤ 5) (hr : ∀ c u, r = c :: u → isd c = false) :
    numT neg (decD j m ++ r) = fracN neg m r := by
  have hd := digS_of (decD_dig j m) hr (by rw [decD_len]; omega)
  rw [decD_len, decD_val j m hm] at hd
  unfold numT
  rw [hd, if_neg (by simp only; omega), List.drop_left' (decD_len j m)]
/-- Digits behind the point. -/
theorem fracN_of {neg : Bool} {w k p : Nat} {u : List Nat} (hu : ∀ x ∈ u, isd x = true) (hk : u.length = k) (h1 : 1 ≤ k) (h6 : k ≤ 6) (hp : valD u = p) :
    fracN neg w (46 :: u) = finN neg (w * 65536 + (2 * p * 65536 + 10 ^ k) / (2 * 10 ^ k)) := by
  have hd := digS_nil hu (by omega)
  unfold fracN
  simp only [hd]
  rw [if_neg (by omega), hp, hk]
theorem frac_lin (q f : Nat) (h1 : q * 131072 ≤ 200000 * f + 65536) (h2 : 200000 * f + 65536 < q * 131072 + 131072) : (131072 * q + 100000) / 200000 = f := by omega
theorem fracQ_at (f : Nat) : fracQ f * 131072 ≤ 200000 * f + 65536 ∧ 200000 * f + 65536 < fracQ f * 131072 + 131072 := by
  have e : fracQ f = (200000 * f + 65536) / 131072 := by unfold fracQ; rw [show 2 * f * 100000 = 200000 * f by omega]
  rw [e]; omega
theorem frac_back {k p f : Nat} (_hf : f < 65536) (hk : k ≤ 5) (hq : fracQ f = p * 10 ^ (5 - k)) : (2 * p * 65536 + 10 ^ k) / (2 * 10 ^ k) = f := by
  have e : (2 * p * 65536 + 10 ^ k) / (2 * 10 ^ k) = (2 * fracQ f * 65536 + 100000) / 200000 := by
    rw [hq]
    match k, hk with
    | 0, _ => simp; omega
    | 1, _ => simp; omega
    | 2, _ => simp; omega
    | 3, _ => simp; omega
    | 4, _ => simp; omega
    | 5, _ => simp
  rw [e]
  obtain ⟨b1, b2⟩ := fracQ_at f
  have := frac_lin (fracQ f) f b1 b2
  rwa [show 2 * fracQ f * 65536 = 131072 * fracQ f by omega]
theorem fracQ_bd {f : Nat} (h0 : f ≠ 0) (h : f < 65536) : 1 ≤ fracQ f ∧ fracQ f < 100000 := by unfold fracQ; omega
theorem valD_zero (m : List Nat) (h : ∀ x ∈ m, x = 48) : valD m = 0 := by have := valD_zeros [] m h; simpa [valD] using this
/-- Format's text is read as the number. -/
theorem num_fmt {x : Int} {l : List Nat} (h1 : -2147483648 ≤ x) (h2 : x ≤ 2147483648) (h : FmtOf x l) : numS l = some x := by
  obtain ⟨j, hj, rfl⟩ := h
  obtain ⟨m, hm⟩ : ∃ m, x.natAbs / 65536 = m := ⟨_, rfl⟩
  obtain ⟨f, hf⟩ : ∃ f, x.natAbs % 65536 = f := ⟨_, rfl⟩
  have hm5 : m ≤ 32768 := by omega
  have hf6 : f < 65536 := by omega
  rw [hm] at hj ⊢
  rw [hf]
  obtain ⟨j', hj', h1', h5'⟩ := decLen_five (n := m) (by omega)
  have e := decLen_one hj hj'
  subst e
  have hr : ∀ c u, fracS f = c :: u → isd c = false := by
    intro c u h
    unfold fracS at h
    split at h
    · cases h
    · injection h with h _; subst h; decide
  have hfin : ∀ neg, (neg = true ↔ x < 0) → finN neg (m * 65536 + f) = some x := by
    intro neg hn
    unfold finN
    rw [if_neg (by omega)]
    by_cases hx : x < 0
    · rw [if_pos (hn.2 hx)]; congr 1; omega
    · rw [if_neg (fun h => hx (hn.1 h))]; congr 1; omega
  have hfrac : ∀ neg, (neg = true ↔ x < 0) → fracN neg m (fracS f) = some x := by
    intro neg hn
    unfold fracS
    by_cases h0 : f = 0
    · rw [if_pos h0]
      show finN neg (m * 65536) = _
      have := hfin neg hn
      rw [h0, Nat.add_zero] at this
      exact this
    · rw [if_neg h0]
      obtain ⟨q1, q2⟩ := fracQ_bd h0 hf6
      obtain ⟨k, hk, ht, hz⟩ := trimZ_take (decD 5 (fracQ f))
      rw [decD_len] at hk
      have hdd := decD_dig 5 (fracQ f)
      have hv := decD_val 5 (fracQ f) (by simpa using q2)
      have hs := valD_zeros ((decD 5 (fracQ f)).take k) ((decD 5 (fracQ f)).drop k) hz
      rw [List.take_append_drop, hv, List.length_drop, decD_len] at hs
      have hk1 : 1 ≤ k := by
        rcases Nat.eq_zero_or_pos k with rfl | h
        · simp [valD] at hs; omega
        · exact h
      rw [ht, fracN_of (k := k) (p := valD ((decD 5 (fracQ f)).take k)) (fun x hx => hdd x (List.mem_of_mem_take hx)) (by rw [List.length_take, decD_len]; omega) hk1 (by omega) rfl]
      rw [frac_back hf6 hk hs]
      exact hfin neg hn
  by_cases hx : x < 0
  · rw [if_pos hx]
    show numT (sgnB (45 :: (decD j m ++ fracS f))) (sgnT (45 :: (decD j m ++ fracS f))) = _
    rw [(sgn_neg _).1, (sgn_neg _).2, numT_of hj.1 h1' h5' hr]
    exact hfrac true (by simp [hx])
  · rw [if_neg hx, List.nil_append]
    obtain ⟨i, rfl⟩ : ∃ i, j = i + 1 := ⟨j - 1, by omega⟩
    have hc : decD (i + 1) m ++ fracS f = (48 + m / 10 ^ i % 10) :: (decD i m ++ fracS f) := by rw [decD_cons]; rfl
    obtain ⟨s1, s2⟩ := sgn_pos hc (by omega)
    unfold numS
    rw [s1, s2, numT_of hj.1 h1' h5' hr]
    exact hfrac false (by simp [hx])
/-- A decimal text of few digits is read as the nearest multiple of 1/65536. -/
theorem num_near {w f j n : Nat} (hw : w < 32000) (hj : DecLen w 1 j) (hn : 1 ≤ n) (h4 : n ≤ 4) (hf : f < 10 ^ n) :
    numS (decD j w ++ 46 :: decD n f) = some ((w * 65536 + (2 * f * 65536 + 10 ^ n) / (2 * 10 ^ n) : Nat) : Int) := by
  obtain ⟨j', hj', h1', h5'⟩ := decLen_five (n := w) (by omega)
  have e := decLen_one hj hj'
  subst e
  obtain ⟨i, rfl⟩ : ∃ i, j = i + 1 := ⟨j - 1, by omega⟩
  have hc : decD (i + 1) w ++ 46 :: decD n f = (48 + w / 10 ^ i % 10) :: (decD i w ++ 46 :: decD n f) := by rw [decD_cons]; rfl
  obtain ⟨s1, s2⟩ := sgn_pos hc (by omega)
  unfold numS
  rw [s1, s2, numT_of hj.1 h1' h5' (fun c u h => by injection h with h _; subst h; decide)]
  rw [fracN_of (k := n) (p := f) (decD_dig n f) (decD_len n f) hn (by omega) (decD_val n f hf)]
  unfold finN
  have hq : (2 * f * 65536 + 10 ^ n) / (2 * 10 ^ n) ≤ 65536 := by
    match n, hn, h4 with
    | 1, _, _ => simp at hf ⊢; omega
    | 2, _, _ => simp at hf ⊢; omega
    | 3, _, _ => simp at hf ⊢; omega
    | 4, _, _ => simp at hf ⊢; omega
  rw [if_neg (by omega), if_neg (by decide)]
/-- .. and it is near. -/
theorem near_ok {w f n : Nat} (hn : 1 ≤ n) (h4 : n ≤ 4) :
    let x : Int := ((w * 65536 + (2 * f * 65536 + 10 ^ n) / (2 * 10 ^ n) : Nat) : Int)
    let d : Int := x * (10 ^ n : Nat) - (w * (10 ^ n : Nat) + f) * 65536
    2 * d ≤ (10 ^ n : Nat) ∧ -2 * d < (10 ^ n : Nat) := by
  match n, hn, h4 with
  | 1, _, _ => simp; omega
  | 2, _, _ => simp; omega
  | 3, _, _ => simp; omega
  | 4, _, _ => simp; omega
end Go.Proofs.YtpaiapcnoifpmaaDoor
namespace Go.Proofs.YtpaiapcnoifpmaaDoor
open Go.RowKit

/-- What a text of 1 to m digits denotes. -/
def digsD (l : List Nat) (m : Nat) : Option Nat := if (1 ≤ l.length ∧ l.length ≤ m) ∧ l.all isd = true then some (valD l) else none
theorem digsD_all {l : List Nat} (h : (digS l 0 0).1 = l.length) : l.all isd = true := by
  rw [List.all_eq_true]
  intro x hx
  have := digS_take l 0 0 x
  rw [h, Nat.sub_zero, List.take_length] at this
  exact this hx
theorem digS_all {l : List Nat} (h : l.all isd = true) (h15 : l.length ≤ 15) : digS l 0 0 = (l.length, valD l) := digS_nil (List.all_eq_true.1 h) h15
theorem intT_digs (neg : Bool) (t : List Nat) : intT neg t = (digsD t 15).map (fun v => if neg = true then -(v : Int) else v) := by
  unfold digsD
  by_cases h : (1 ≤ t.length ∧ t.length ≤ 15) ∧ t.all isd = true
  · rw [if_pos h]
    unfold intT
    rw [digS_all h.2 h.1.2, if_neg (by simp only; omega)]
    rfl
  · rw [if_neg h]
    unfold intT
    rw [if_pos]
    · rfl
    · apply Decidable.byContradiction
      intro hc
      have hl : (digS t 0 0).1 = t.length := by omega
      exact h ⟨by omega, digsD_all hl⟩
/-- The text ahead of the first c, and what is behind it. -/
def cutA (c : Nat) (l : List Nat) : List Nat := l.takeWhile (fun x => !decide (x = c))
def cutZ (c : Nat) (l : List Nat) : List Nat := (l.dropWhile (fun x => !decide (x = c))).tail
def cutB (c : Nat) (l : List Nat) : Bool := decide (c ∈ l)
theorem cut_none {c : Nat} {l : List Nat} (h : ∀ x ∈ l, x ≠ c) : cutA c l = l ∧ cutZ c l = [] ∧ cutB c l = false := by
  refine ⟨?_, ?_, ?_⟩
  · unfold cutA
    induction l with
    | nil => rfl
    | cons d l ih => rw [List.takeWhile_cons_of_pos (by simp [h d (by simp)]), ih (fun x hx => h x (by simp [hx]))]
  · unfold cutZ
    induction l with
    | nil => rfl
    | cons d l ih => rw [List.dropWhile_cons_of_pos (by simp [h d (by simp)]), ih (fun x hx => h x (by simp [hx]))]
  · unfold cutB; rw [decide_eq_false]; intro hc; exact h c hc rfl
theorem cut_some {c : Nat} {m u : List Nat} (h : ∀ x ∈ m, x ≠ c) : cutA c (m ++ c :: u) = m ∧ cutZ c (m ++ c :: u) = u ∧ cutB c (m ++ c :: u) = true := by
  induction m with
  | nil => simp [cutA, cutZ, cutB]
  | cons d m ih =>
    obtain ⟨h1, h2, h3⟩ := ih (fun x hx => h x (by simp [hx]))
    have hd : d ≠ c := h d (by simp)
    refine ⟨?_, ?_, ?_⟩
    · unfold cutA at h1 ⊢; rw [List.cons_append, List.takeWhile_cons_of_pos (by simp [hd]), h1]
    · unfold cutZ at h2 ⊢; rw [List.cons_append, List.dropWhile_cons_of_pos (by simp [hd]), h2]
    · unfold cutB; rw [decide_eq_true]; simp
theorem cut_cases (c : Nat) (l : List Nat) : (∀ x ∈ l, x ≠ c) ∨ ∃ m u, l = m ++ c :: u ∧ ∀ x ∈ m, x ≠ c := by
  induction l with
  | nil => left; simp
  | cons d l ih =>
    by_cases hd : d = c
    · right; exact ⟨[], l, by simp [hd], by simp⟩
    · rcases ih with h | ⟨m, u, h1, h2⟩
      · left; intro x hx
        rcases List.mem_cons.1 hx with rfl | hx
        · exact hd
        · exact h x hx
      · right
        refine ⟨d :: m, u, by simp [h1], fun x hx => ?_⟩
        rcases List.mem_cons.1 hx with rfl | hx
        · exact hd
        · exact h2 x hx
theorem isd_46 {x : Nat} (h : isd x = true) : x ≠ 46 := by
  have := isd_iff.1 h; omega
/-- A million times the number that a text without a sign denotes. -/
def milS (t : List Nat) : Option Nat :=
  match digsD (cutA 46 t) 5 with
  | none => none
  | some w => if cutB 46 t = false then some (w * 1000000) else
    match digsD (cutZ 46 t) 6 with
    | none => none
    | some f => some (w * 1000000 + f * 10 ^ (6 - (cutZ 46 t).length))
def nearQ (p q : Nat) : Nat := (2 * p + q) / (2 * q)
theorem nq_whole (w : Nat) : (2 * (w * 65536000000) + 1000000) / 2000000 = w * 65536 := by omega
theorem near_whole (w : Nat) : nearQ (w * 1000000 * 65536) 1000000 = w * 65536 := by
  unfold nearQ
  rw [show w * 1000000 * 65536 = w * 65536000000 by omega]
  exact nq_whole w
theorem near_frac {w f k : Nat} (h1 : 1 ≤ k) (h6 : k ≤ 6) : nearQ ((w * 1000000 + f * 10 ^ (6 - k)) * 65536) 1000000 = w * 65536 + (2 * f * 65536 + 10 ^ k) / (2 * 10 ^ k) := by
  unfold nearQ
  match k, h1, h6 with
  | 1, _, _ => simp; omega
  | 2, _, _ => simp; omega
  | 3, _, _ => simp; omega
  | 4, _, _ => simp; omega
  | 5, _, _ => simp; omega
  | 6, _, _ => simp; omega
theorem digsD_some {l : List Nat} {m v : Nat} (h : digsD l m = some v) : (1 ≤ l.length ∧ l.length ≤ m) ∧ l.all isd = true ∧ v = valD l := by
  unfold digsD at h
  split at h
  · rename_i hc; injection h with h; exact ⟨hc.1, hc.2, h.symm⟩
  · cases h
theorem digsD_none {l : List Nat} {m : Nat} (h : digsD l m = none) : ¬ ((1 ≤ l.length ∧ l.length ≤ m) ∧ l.all isd = true) := by
  intro hc; unfold digsD at h; rw [if_pos hc] at h; cases h
theorem num_mil (neg : Bool) (t : List Nat) : numT neg t = (milS t).bind (fun p => finN neg (nearQ (p * 65536) 1000000)) := by
  cases hb : digsD (cutA 46 t) 5 with
  | none =>
    have hm : milS t = none := by unfold milS; rw [hb]
    rw [hm]
    show numT neg t = none
    have hn := digsD_none hb
    unfold numT
    by_cases h0 : (digS t 0 0).1 < 1 ∨ 5 < (digS t 0 0).1
    · rw [if_pos h0]
    · rw [if_neg h0]
      have hle := (digS_le t 0 0).2
      have htk := digS_take t 0 0
      rw [Nat.sub_zero] at htk
      cases hd : t.drop (digS t 0 0).1 with
      | nil =>
        exfalso
        have hlen : (digS t 0 0).1 = t.length := by
          have := congrArg List.length hd
          simp at this; omega
        have hall := digsD_all hlen
        have hc := (cut_none (c := 46) (l := t) (fun x hx => isd_46 (List.all_eq_true.1 hall x hx))).1
        rw [hc] at hn
        exact hn ⟨by omega, hall⟩
      | cons c u =>
        unfold fracN
        by_cases hc : c = 46
        · exfalso
          subst hc
          have ht : t = t.take (digS t 0 0).1 ++ 46 :: u := by rw [← hd, List.take_append_drop]
          have hA : cutA 46 t = t.take (digS t 0 0).1 := by
            have := (cut_some (c := 46) (m := t.take (digS t 0 0).1) (u := u) (fun x hx => isd_46 (htk x hx))).1
            rwa [← ht] at this
          rw [hA] at hn
          refine hn ⟨?_, List.all_eq_true.2 htk⟩
          rw [List.length_take]; omega
        · simp only [hc, ne_eq, not_false_eq_true, true_or, if_true]
  | some w =>
    obtain ⟨hl, hall, hw⟩ := digsD_some hb
    rcases cut_cases 46 t with hno | ⟨m, u, ht, hm⟩
    · obtain ⟨c1, c2, c3⟩ := cut_none hno
      have hmS : milS t = some (w * 1000000) := by unfold milS; rw [hb]; simp only; rw [if_pos c3]
      rw [hmS, Option.bind_some, near_whole]
      rw [c1] at hl hall hw
      unfold numT
      rw [digS_all hall (by omega), if_neg (by simp only; omega)]
      simp only [List.drop_length]
      rw [hw]
      rfl
    · obtain ⟨c1, c2, c3⟩ := cut_some (c := 46) (u := u) hm
      rw [← ht] at c1 c2 c3
      rw [c1] at hl hall hw
      have hd : digS t 0 0 = (m.length, valD m) := by
        rw [ht]
        exact digS_of (List.all_eq_true.1 hall) (fun c v h => by injection h with h _; subst h; decide) (by omega)
      have hdr : t.drop m.length = 46 :: u := by rw [ht]; exact List.drop_left' rfl
      unfold numT
      rw [hd, if_neg (by simp only; omega), hdr]
      cases hf : digsD u 6 with
      | none =>
        have hmS : milS t = none := by unfold milS; rw [hb]; simp only; rw [if_neg (by rw [c3]; decide), c2, hf]
        rw [hmS]
        have hn := digsD_none hf
        unfold fracN
        simp only
        rw [if_pos]
        · rfl
        · apply Decidable.byContradiction
          intro hc
          have hl2 : (digS u 0 0).1 = u.length := by omega
          exact hn ⟨by omega, digsD_all hl2⟩
      | some f =>
        obtain ⟨fl, fall, fw⟩ := digsD_some hf
        have hmS : milS t = some (w * 1000000 + f * 10 ^ (6 - u.length)) := by unfold milS; rw [hb]; simp only; rw [if_neg (by rw [c3]; decide), c2, hf]
        rw [hmS, fracN_of (List.all_eq_true.1 fall) rfl fl.1 fl.2 fw.symm]
        rw [Option.bind_some, near_frac fl.1 fl.2, hw]
theorem isd_lt {l : List Nat} (h : l.all isd = true) : valD l < 10 ^ l.length := by
  have key : ∀ (l : List Nat), (∀ x ∈ l, isd x = true) → ∀ v k, v < 10 ^ k → l.foldl (fun v c => 10 * v + (c - 48)) v < 10 ^ (k + l.length) := by
    intro l
    induction l with
    | nil => intro _ v k hv; exact hv
    | cons c l ih =>
      intro hl v k hv
      rw [List.foldl_cons, List.length_cons, show k + (l.length + 1) = (k + 1) + l.length by omega]
      refine ih (fun x hx => hl x (by simp [hx])) _ _ ?_
      have := isd_iff.1 (hl c (by simp))
      rw [Nat.pow_succ]; omega
  have := key l (List.all_eq_true.1 h) 0 0 (by decide)
  rwa [Nat.zero_add] at this
theorem digsD_lt {l : List Nat} {m v : Nat} (h : digsD l m = some v) : v < 10 ^ m := by
  obtain ⟨⟨_, h2⟩, h3, rfl⟩ := digsD_some h
  exact Nat.lt_of_lt_of_le (isd_lt h3) (Nat.pow_le_pow_right (by decide) h2)
end Go.Proofs.YtpaiapcnoifpmaaDoor
