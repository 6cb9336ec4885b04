/- Proved: plain facts on descriptions that were formatted: parsing them gives the statements again. Conditions: as each theorem states. -/
import Derived.Test.YtnahlpeckfcciaaDoorSy13
import Derived.Test.YtnahlpeckfcciaaDoorSy8
namespace Go.Proofs.YtnahlpeckfcciaaDoor
open Go.RowKit

/-- A word. -/
def WordT (b : ByteArray) : Prop := 1 ≤ b.size ∧ ∀ c ∈ bts b, wb c = true
theorem ArgT.word {b : ByteArray} (h : ArgT b) : WordT b := ⟨h.1.1, h.2⟩
def prs (l : List Tw) : List (List Nat × Nat) := l.map fun w => (bts w.t, w.l.toNat)
/-- The text x, from its line on, holds these words, and ends a line. -/
def Rds (x : List Nat) (a b : Nat) (ws : List (List Nat × Nat)) : Prop := ∀ (y : List Nat) (out : List (List Nat × Nat)), rT (x ++ y) a false none out = rT y b false none (out ++ ws)
theorem Rds.nil (a : Nat) : Rds [] a a [] := fun y out => by simp
theorem Rds.cat {x y : List Nat} {a b c : Nat} {u v : List (List Nat × Nat)} (h : Rds x a b u) (k : Rds y b c v) : Rds (x ++ y) a c (u ++ v) := fun z out => by rw [List.append_assoc, h, k, List.append_assoc]
theorem rT_word {m : List Nat} (h : ∀ x ∈ m, wb x = true) : ∀ (l : List Nat) (line : Nat) (t : List Nat) (out : List (List Nat × Nat)), rT (m ++ l) line false (some t) out = rT l line false (some (t ++ m)) out := by
  induction m with
  | nil => intro l line t out; simp
  | cons c m ih =>
    intro l line t out
    rw [List.cons_append, rT, if_pos ⟨rfl, h c (by simp)⟩, ih (fun x hx => h x (by simp [hx]))]
    simp
theorem rT_first {m : List Nat} (h : ∀ x ∈ m, wb x = true) (hm : m ≠ []) (l : List Nat) (line : Nat) (out : List (List Nat × Nat)) : rT (m ++ l) line false none out = rT l line false (some m) out := by
  cases m with
  | nil => exact absurd rfl hm
  | cons c m =>
    rw [List.cons_append, rT, if_pos ⟨rfl, h c (by simp)⟩, rT_word (fun x hx => h x (by simp [hx]))]
    rfl
theorem rT_space (l : List Nat) (line : Nat) (t : List Nat) (out : List (List Nat × Nat)) : rT (32 :: l) line false (some t) out = rT l line false none (out ++ [(t, line)]) := by
  rw [rT, if_neg (by simp [wb]), if_neg (by decide), if_neg (by decide), if_neg (by decide), if_pos (.inl rfl)]
  rfl
theorem rT_end (l : List Nat) (line : Nat) (t : List Nat) (out : List (List Nat × Nat)) : rT (10 :: l) line false (some t) out = rT l (line + 1) false none (out ++ [(t, line)]) := by
  rw [rT, if_neg (by simp [wb]), if_pos rfl]
  rfl
/-- The bytes of a line. -/
def argsL (xs : List ByteArray) : List Nat := xs.flatMap fun a => 32 :: bts a
def lineL (g : St) : List Nat := bts g.word ++ (argsL g.args ++ [10])
theorem bts_ne {b : ByteArray} (h : 1 ≤ b.size) : bts b ≠ [] := by
  intro e
  have := bts_len b
  rw [e] at this
  simp at this
  omega
theorem rT_args {xs : List ByteArray} (h : ∀ a ∈ xs, WordT a) : ∀ (y : List Nat) (line : Nat) (t : List Nat) (out : List (List Nat × Nat)), rT (argsL xs ++ 10 :: y) line false (some t) out = rT y (line + 1) false none (out ++ (t, line) :: xs.map fun a => (bts a, line)) := by
  induction xs with
  | nil => intro y line t out; simp only [argsL, List.flatMap_nil, List.nil_append, List.map_nil]; exact rT_end _ _ _ _
  | cons x xs ih =>
    intro y line t out
    have hx := h x (by simp)
    have e : argsL (x :: xs) ++ 10 :: y = 32 :: (bts x ++ (argsL xs ++ 10 :: y)) := by simp [argsL]
    rw [e, rT_space, rT_first hx.2 (bts_ne hx.1), ih (fun a ha => h a (by simp [ha]))]
    simp
def atLine (g : St) (n : Nat) : St := ⟨n, g.word, g.args⟩
theorem rds_line {g : St} (hw : WordT g.word) (ha : ∀ a ∈ g.args, WordT a) (n : Nat) : Rds (lineL g) n (n + 1) (prs (flatS [atLine g n])) := by
  intro y out
  have e : lineL g ++ y = bts g.word ++ (argsL g.args ++ 10 :: y) := by simp [lineL]
  rw [e, rT_first hw.2 (bts_ne hw.1), rT_args ha]
  simp [prs, flatS, atLine, Function.comp_def]
/-- What may stand ahead of a line. -/
def gapL : Nat → List Nat
  | 0 => []
  | 1 => [35, 32, 106, 111, 105, 110, 116, 10]
  | 2 => [10, 10]
  | _ => [9, 32]
def gapN : Nat → Nat
  | 0 => 0
  | 1 => 1
  | 2 => 2
  | _ => 0
theorem rds_gap (c n : Nat) : Rds (gapL c) n (n + gapN c) [] := by
  intro y out
  match c with
  | 0 => simp [gapL, gapN]
  | 1 => simp [gapL, gapN, rT, flT, wb]
  | 2 => simp [gapL, gapN, rT, flT, wb]
  | c + 3 => simp [gapL, gapN, rT, flT, wb]
/-- The statements, with the lines in which they stand behind these gaps. -/
def withGaps : Nat → List St → List Nat → List St
  | _, [], _ => []
  | n, g :: l, cs => atLine g (n + gapN (cs.headD 0)) :: withGaps (n + gapN (cs.headD 0) + 1) l cs.tail
def textGaps : List St → List Nat → List Nat
  | [], _ => []
  | g :: l, cs => gapL (cs.headD 0) ++ lineL g ++ textGaps l cs.tail
theorem rds_gaps {l : List St} (h : ∀ g ∈ l, WordT g.word ∧ ∀ a ∈ g.args, WordT a) : ∀ (n : Nat) (cs : List Nat), ∃ m, Rds (textGaps l cs) n m (prs (flatS (withGaps n l cs))) := by
  induction l with
  | nil => intro n cs; exact ⟨n, Rds.nil n⟩
  | cons g l ih =>
    intro n cs
    obtain ⟨m, hm⟩ := ih (fun x hx => h x (by simp [hx])) (n + gapN (cs.headD 0) + 1) cs.tail
    refine ⟨m, ?_⟩
    have h1 := ((rds_gap (cs.headD 0) n).cat (rds_line (h g (by simp)).1 (h g (by simp)).2 _)).cat hm
    rw [List.nil_append] at h1
    have e : prs (flatS (withGaps n (g :: l) cs)) = prs (flatS [atLine g (n + gapN (cs.headD 0))]) ++ prs (flatS (withGaps (n + gapN (cs.headD 0) + 1) l cs.tail)) := by simp [withGaps, flatS, prs]
    rw [e]
    exact h1
theorem withGaps_line {l : List St} : ∀ (n : Nat) (cs : List Nat), (∀ g ∈ withGaps n l cs, (n : Int) ≤ g.line) ∧ (withGaps n l cs).Pairwise (fun a b => a.line < b.line) := by
  induction l with
  | nil => intro n cs; exact ⟨by simp [withGaps], List.Pairwise.nil⟩
  | cons g l ih =>
    intro n cs
    obtain ⟨h1, h2⟩ := ih (n + gapN (cs.headD 0) + 1) cs.tail
    refine ⟨fun x hx => ?_, ?_⟩
    · rcases List.mem_cons.1 hx with rfl | hx
      · simp only [atLine]; omega
      · have := h1 x hx; omega
    · rw [withGaps, List.pairwise_cons]
      exact ⟨fun x hx => by have := h1 x hx; simp only [atLine]; omega, h2⟩
theorem withGaps_alike {l : List St} : ∀ (n : Nat) (cs : List Nat), (withGaps n l cs).length = l.length ∧ ∀ (k : Nat) (h : k < (withGaps n l cs).length) (h' : k < l.length), (withGaps n l cs)[k].word = l[k].word ∧ (withGaps n l cs)[k].args = l[k].args := by
  induction l with
  | nil => intro n cs; exact ⟨rfl, fun k h => absurd h (by simp [withGaps])⟩
  | cons g l ih =>
    intro n cs
    obtain ⟨h1, h2⟩ := ih (n + gapN (cs.headD 0) + 1) cs.tail
    refine ⟨by rw [withGaps, List.length_cons, h1, List.length_cons], fun k h h' => ?_⟩
    match k with
    | 0 => exact ⟨rfl, rfl⟩
    | k + 1 =>
      have := h2 k (by simpa [withGaps] using h) (by simpa using h')
      simpa [withGaps] using this
theorem withGaps_good {l : List St} (n : Nat) (cs : List Nat) (h : ∀ g ∈ l, GoodSt g) : ∀ g ∈ withGaps n l cs, GoodSt g := by
  intro g hg
  obtain ⟨k, hk, rfl⟩ := List.getElem_of_mem hg
  obtain ⟨h1, h2⟩ := withGaps_alike (l := l) n cs
  have hk' : k < l.length := by rw [← h1]; exact hk
  obtain ⟨h3, h4⟩ := h2 k hk hk'
  have := h l[k] (List.getElem_mem _)
  unfold GoodSt at this ⊢
  rw [h3, h4]
  exact this
/-- Parsing what was formatted, with gaps ahead of its lines and something behind it that holds no word. -/
theorem parse_gaps {s : ByteArray} {l : List St} {cs t : List Nat} (h : ∀ g ∈ l, GoodSt g ∧ WordT g.word ∧ ∀ a ∈ g.args, WordT a) (hs : bts s = textGaps l cs ++ t) (ht : t = [] ∨ t = [35]) (h16 : s.size ≤ 16384) (hn : l.length ≤ 256) : parseS s = ⟨withGaps 1 l cs, 0, 0⟩ := by
  obtain ⟨m, hm⟩ := rds_gaps (fun g hg => (h g hg).2) 1 cs
  obtain ⟨w1, w2⟩ := withGaps_line (l := l) 1 cs
  refine parse_found h16 ?_ (fun g hg => by have := w1 g hg; omega) w2 (by rw [(withGaps_alike (l := l) 1 cs).1]; exact hn) (withGaps_good 1 cs fun g hg => (h g hg).1)
  rw [hs, hm, List.nil_append]
  rcases ht with rfl | rfl
  · rfl
  · rfl
theorem argK_bts (xs : List ByteArray) (b : ByteArray) (j : Nat) : bts (argK xs b j) = bts b ++ argsL (xs.take j) := by
  unfold argK
  generalize xs.take j = l
  induction l generalizing b with
  | nil => simp [argsL]
  | cons a l ih =>
    rw [List.foldl_cons, ih]
    simp [argB, argsL, bts]
theorem lineB_bts (b : ByteArray) (g : St) : bts (lineB b g) = bts b ++ lineL g := by
  unfold lineB lineL
  rw [bts_append, argK_bts, bts_append, List.take_length]
  simp [bts]
theorem fmtS_bts (l : List St) : bts (fmtS l) = textGaps l [] := by
  unfold fmtS fmtK
  rw [List.take_length]
  have key : ∀ (l : List St) (b : ByteArray), bts (l.foldl lineB b) = bts b ++ textGaps l [] := by
    intro l
    induction l with
    | nil => intro b; simp [textGaps]
    | cons g l ih =>
      intro b
      rw [List.foldl_cons, ih, lineB_bts, textGaps]
      simp [gapL]
  rw [key]
  rfl
/-- Parsing what was formatted. -/
theorem parse_fmt {l : List St} (h : ∀ g ∈ l, GoodSt g ∧ WordT g.word ∧ ∀ a ∈ g.args, WordT a) (h16 : fmtLen l ≤ 16384) (hn : l.length ≤ 256) : parseS (fmtS l) = ⟨withGaps 1 l [], 0, 0⟩ := by
  refine parse_gaps (t := []) h (by rw [fmtS_bts, List.append_nil]) (.inl rfl) ?_ hn
  unfold fmtS
  rw [fmtK_size, List.take_length]
  exact h16
/-- One statement in each line. -/
theorem withGaps_lines {l : List St} : ∀ (n k : Nat) (h : k < (withGaps n l []).length), (withGaps n l [])[k].line = ((n + k : Nat) : Int) := by
  induction l with
  | nil => intro n k h; exact absurd h (by simp [withGaps])
  | cons g l ih =>
    intro n k h
    match k with
    | 0 => simp [withGaps, atLine, gapN]
    | k + 1 =>
      have := ih (n + 1) k (by simpa [withGaps, gapN] using h)
      simp only [withGaps, List.headD_nil, gapN, Nat.add_zero, List.tail_nil, List.getElem_cons_succ]
      rw [this]
      omega
end Go.Proofs.YtnahlpeckfcciaaDoor
