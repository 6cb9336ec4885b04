/- Proved: plain facts on one line of a description: what the words of Tk1 are where the line is bad, and what is left behind its text. Conditions: as each theorem states. Nothing of the program is used. -/
import Derived.Test.YtnahlpeckfcciaaDoorTkJ
namespace Go.Proofs.YtnahlpeckfcciaaDoor
open Go.RowKit

theorem line_bad {m l : List Nat} {i line bg : Nat} {st : Option Nat} {out : List Wd} (h10 : ∀ x ∈ m, x ≠ 10) (h35 : ∀ x ∈ m, x ≠ 35) (hp : m.all pmL = false) : run (m ++ l) i line bg false st out = .bad line := by
  induction m generalizing i st out with
  | nil => cases hp
  | cons c m ih =>
    have i10 : ∀ x ∈ m, x ≠ 10 := fun x hx => h10 x (by simp [hx])
    have i35 : ∀ x ∈ m, x ≠ 35 := fun x hx => h35 x (by simp [hx])
    rw [List.cons_append]
    cases hc : pmL c with
    | false =>
      have h1 : wb c = false := by
        cases hw : wb c
        · rfl
        · rw [pmL_iff.2 (.inr (.inr hw))] at hc; cases hc
      exact run_bad h1 (h10 c (by simp)) (h35 c (by simp)) (fun e => by rw [pmL_iff.2 (.inl e)] at hc; cases hc) (fun e => by rw [pmL_iff.2 (.inr (.inl e))] at hc; cases hc)
    | true =>
      have ip : m.all pmL = false := by rw [List.all_cons, hc, Bool.true_and] at hp; exact hp
      rcases pmL_iff.1 hc with h | h | h
      · rw [run_gap (.inl h)]; exact ih i10 i35 ip
      · rw [run_gap (.inr h)]; exact ih i10 i35 ip
      · rw [run_word h]; exact ih i10 i35 ip
theorem line_rest {u l : List Nat} {p line bg : Nat} {out : List Wd} (hu : u = [] ∨ ∃ v, u = 35 :: v ∧ ∀ x ∈ v, x ≠ 10) : ∃ com, run (u ++ l) p line bg false none out = run l (p + u.length) line bg com none out := by
  rcases hu with rfl | ⟨v, rfl, hv⟩
  · exact ⟨false, rfl⟩
  · refine ⟨true, ?_⟩
    rw [List.cons_append, run_hash rfl]
    show run (v ++ l) (p + 1) line bg true none out = _
    rw [run_skip hv, List.length_cons]
    congr 1
    omega
/-- The parts of a line: its text, and a comment. -/
theorem line_parts (l : List Nat) : ∃ u, l = cutA 35 l ++ u ∧ (u = [] ∨ ∃ v, u = 35 :: v) ∧ ∀ x ∈ cutA 35 l, x ≠ 35 := by
  rcases cut_cases 35 l with h | ⟨m, u, h1, h2⟩
  · exact ⟨[], by rw [(cut_none h).1, List.append_nil], .inl rfl, by rw [(cut_none h).1]; exact h⟩
  · have h3 := (cut_some (u := u) h2).1
    rw [← h1] at h3
    exact ⟨35 :: u, by rw [h3]; exact h1, .inr ⟨u, rfl⟩, by rw [h3]; exact h2⟩
/-- One line of s, from i on, len bytes long; x is its text. -/
theorem line_step {s x : ByteArray} {i len : Nat} (hb : i + len ≤ s.size) (hno : ∀ y ∈ ((bts s).drop i).take len, y ≠ 10) (hx : bts x = cutA 35 (((bts s).drop i).take len)) (hr : s.size ≤ i + len ∨ ∃ r, (bts s).drop (i + len) = 10 :: r) :
    s.extract i (i + x.size) = x ∧ i + x.size ≤ s.size ∧ (∀ line out, (bts x).all pmL = false → run ((bts s).drop i) i line i false none out = .bad line) ∧
    (∀ c u, (bts s).drop (i + x.size) = c :: u → wb c = false) ∧
    (∀ line out, ∃ com, run ((bts s).drop (i + x.size)) (i + x.size) line i false none out = run ((bts s).drop (i + len)) (i + len) line i com none out) := by
  obtain ⟨L, hL⟩ : ∃ L, ((bts s).drop i).take len = L := ⟨_, rfl⟩
  rw [hL] at hno hx
  have hlen : L.length = len := by rw [← hL, List.length_take, List.length_drop, bts_len]; omega
  have hd : (bts s).drop i = L ++ (bts s).drop (i + len) := by rw [← hL, ← List.drop_drop, List.take_append_drop]
  obtain ⟨u, h1, h2, h3⟩ := line_parts L
  rw [← hx] at h1 h3
  have hxl : x.size + u.length = len := by
    have := congrArg List.length h1
    rw [List.length_append, bts_len, hlen] at this
    omega
  have hd2 : (bts s).drop (i + x.size) = u ++ (bts s).drop (i + len) := by
    rw [← List.drop_drop, hd, h1, List.append_assoc, List.drop_left' (bts_len x)]
  have hno1 : ∀ y ∈ bts x, y ≠ 10 := fun y hy => hno y (by rw [h1]; exact List.mem_append_left _ hy)
  have hu : u = [] ∨ ∃ v, u = 35 :: v ∧ ∀ y ∈ v, y ≠ 10 := by
    rcases h2 with h | ⟨v, rfl⟩
    · exact .inl h
    · exact .inr ⟨v, rfl, fun y hy => hno y (by rw [h1]; exact List.mem_append_right _ (by simp [hy]))⟩
  refine ⟨?_, by omega, ?_, ?_, ?_⟩
  · apply bts_inj
    rw [bts_extract, hd, h1, List.append_assoc]
    exact List.take_left' (by rw [bts_len]; omega)
  · intro line out hp
    rw [hd, h1, List.append_assoc]
    exact line_bad hno1 h3 hp
  · intro c v hcv
    rw [hd2] at hcv
    rcases h2 with rfl | ⟨v', rfl⟩
    · rw [List.nil_append] at hcv
      rcases hr with hr | ⟨r, hr⟩
      · rw [bts_end s hr] at hcv; cases hcv
      · rw [hr] at hcv; injection hcv with hcv _; subst hcv; rfl
    · injection hcv with hcv _; subst hcv; rfl
  · intro line out
    rw [hd2]
    obtain ⟨com, hc⟩ := line_rest (l := (bts s).drop (i + len)) (p := i + x.size) (line := line) (bg := i) (out := out) hu
    exact ⟨com, by rw [hc, show i + x.size + u.length = i + len by omega]⟩
end Go.Proofs.YtnahlpeckfcciaaDoor
