/- Proved: plain facts on descriptions that are made of words and gaps: which words are found in them. Conditions: as each theorem states. Nothing of the program is used. -/
import Derived.Test.YtmdgofbecmonhaaDoorTk1
namespace Go.Proofs.YtmdgofbecmonhaaDoor
open Go.RowKit

def wordL : Nat → List Nat
  | 0 => [106, 111, 105, 110, 116]
  | 1 => [48, 46, 53]
  | 2 => [126, 33]
  | _ => [119]
def sepL : Nat → List Nat
  | 0 => [32]
  | 1 => [9, 32]
  | 2 => [10]
  | 3 => [35, 120, 32, 121, 10]
  | _ => [32, 35, 32, 35, 255, 10, 10]
theorem word_ok (k : Nat) : (∀ x ∈ wordL k, wb x = true) ∧ wordL k ≠ [] ∧ (wordL k).length ≤ 5 ∧ 1 ≤ (wordL k).length := by
  match k with
  | 0 => decide
  | 1 => decide
  | 2 => decide
  | _ + 3 => exact (by decide : (∀ x ∈ [119], wb x = true) ∧ [119] ≠ [] ∧ [119].length ≤ 5 ∧ 1 ≤ [119].length)
/-- The place of the line behind a gap. -/
def sepLine (k line : Nat) : Nat := line + (sepL k).count 10
def sepBg (k i bg : Nat) : Nat := if (sepL k).count 10 = 0 then bg else i + (sepL k).length
theorem sep_len (k : Nat) : 1 ≤ (sepL k).length ∧ (sepL k).length ≤ 7 := by
  match k with
  | 0 => decide
  | 1 => decide
  | 2 => decide
  | 3 => decide
  | _ + 4 => exact (by decide : 1 ≤ [32, 35, 32, 35, 255, 10, 10].length ∧ [32, 35, 32, 35, 255, 10, 10].length ≤ 7)
theorem run_sep (k : Nat) {l : List Nat} {i line bg a : Nat} {out : List Wd} :
    run (sepL k ++ l) i line bg false (some a) out = run l (i + (sepL k).length) (sepLine k line) (sepBg k i bg) false none (out ++ [⟨a, i, line, (a : Int) - bg + 1⟩]) := by
  match k with
  | 0 => simp [sepL, sepLine, sepBg, run, flush, wb]
  | 1 => simp [sepL, sepLine, sepBg, run, flush, wb]
  | 2 => simp [sepL, sepLine, sepBg, run, flush, wb]
  | 3 => simp [sepL, sepLine, sepBg, run, flush, wb]
  | k + 4 => simp [sepL, sepLine, sepBg, run, flush, wb]
def joinL : List Nat → List Nat
  | [] => []
  | q :: r => wordL (q % 4) ++ sepL (q / 4 % 5) ++ joinL r
theorem joinL_snoc (r : List Nat) (q : Nat) : joinL (r ++ [q]) = joinL r ++ wordL (q % 4) ++ sepL (q / 4 % 5) := by
  induction r with
  | nil => simp [joinL]
  | cons x r ih => simp [joinL, ih]
theorem joinL_len (r : List Nat) : (joinL r).length ≤ 12 * r.length := by
  induction r with
  | nil => exact Nat.le_refl _
  | cons q r ih =>
    have h1 := (word_ok (q % 4)).2.2.1
    have h2 := (sep_len (q / 4 % 5)).2
    simp only [joinL, List.length_append, List.length_cons]
    omega
def placeL : List Nat → Nat → Nat → Nat → List Wd
  | [], _, _, _ => []
  | q :: r, i, line, bg => ⟨i, i + (wordL (q % 4)).length, line, (i : Int) - bg + 1⟩ ::
      placeL r (i + (wordL (q % 4)).length + (sepL (q / 4 % 5)).length) (sepLine (q / 4 % 5) line) (sepBg (q / 4 % 5) (i + (wordL (q % 4)).length) bg)
theorem run_join (r : List Nat) : ∀ (i line bg : Nat) (out : List Wd), run (joinL r) i line bg false none out = .ok (out ++ placeL r i line bg) := by
  induction r with
  | nil => intros; simp [joinL, run, flush, placeL]
  | cons q r ih =>
    intro i line bg out
    obtain ⟨h1, h2, _, _⟩ := word_ok (q % 4)
    rw [joinL, List.append_assoc, run_words h1 h2, run_sep, ih, placeL, List.append_assoc]
    rfl
theorem place_len (r : List Nat) : ∀ i line bg, (placeL r i line bg).length = r.length := by
  induction r with
  | nil => intros; rfl
  | cons q r ih => intros; simp [placeL, ih]
/-- Each word that is found reads as the one that was written. -/
theorem place_text (L : List Nat) (r : List Nat) : ∀ (p : List Nat) (line bg : Nat), L = p ++ joinL r → ∀ (j : Nat) (h : j < r.length) (h' : j < (placeL r p.length line bg).length),
    (L.drop ((placeL r p.length line bg)[j]).a).take (((placeL r p.length line bg)[j]).b - ((placeL r p.length line bg)[j]).a) = wordL (r[j] % 4) := by
  induction r with
  | nil => intro p line bg _ j h; exact absurd h (by simp)
  | cons q r ih =>
    intro p line bg hL j h h'
    match j with
    | 0 =>
      simp only [placeL, List.getElem_cons_zero]
      rw [hL, List.drop_left, joinL, Nat.add_sub_cancel_left, List.append_assoc, List.take_left]
    | j + 1 =>
      have e : (p ++ (wordL (q % 4) ++ sepL (q / 4 % 5))).length = p.length + (wordL (q % 4)).length + (sepL (q / 4 % 5)).length := by simp only [List.length_append]; omega
      have := ih (p ++ (wordL (q % 4) ++ sepL (q / 4 % 5))) (sepLine (q / 4 % 5) line) (sepBg (q / 4 % 5) (p.length + (wordL (q % 4)).length) bg) (by rw [hL, joinL]; simp) j (by simpa using h) (by rw [place_len]; simpa using h)
      simp only [placeL, List.getElem_cons_succ]
      simp only [e] at this
      exact this
theorem place_line (r : List Nat) : ∀ (i line bg : Nat), (∀ w ∈ placeL r i line bg, line ≤ w.line) ∧ (placeL r i line bg).Pairwise (fun x y => x.line ≤ y.line) := by
  induction r with
  | nil => intros; exact ⟨by simp [placeL], List.Pairwise.nil⟩
  | cons q r ih =>
    intro i line bg
    obtain ⟨h1, h2⟩ := ih (i + (wordL (q % 4)).length + (sepL (q / 4 % 5)).length) (sepLine (q / 4 % 5) line) (sepBg (q / 4 % 5) (i + (wordL (q % 4)).length) bg)
    have hs : line ≤ sepLine (q / 4 % 5) line := Nat.le_add_right _ _
    refine ⟨fun w hw => ?_, ?_⟩
    · rcases List.mem_cons.1 hw with rfl | hw
      · exact Nat.le_refl _
      · have := h1 w hw; omega
    · rw [placeL, List.pairwise_cons]
      exact ⟨fun w hw => by have := h1 w hw; show line ≤ _; omega, h2⟩
/-- The words of such a description. -/
theorem split_join {s : ByteArray} {r : List Nat} (h : bts s = joinL r) (h60 : r.length ≤ 60) : splitS s = .ok (placeL r 0 1 0) := by
  have := joinL_len r
  have hl := bts_len s
  unfold splitS
  rw [if_neg (by rw [← hl, h]; omega), h, run_join]
  rfl
end Go.Proofs.YtmdgofbecmonhaaDoor
