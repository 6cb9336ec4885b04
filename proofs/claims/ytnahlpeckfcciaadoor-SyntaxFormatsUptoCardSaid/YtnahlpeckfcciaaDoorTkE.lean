/- Proved: plain facts on texts of digits, as the developers' functions read them: what 1 to m digits denote, and a text cut at its first point. Conditions: as each theorem states. Nothing of the program is used. -/
import Derived.Test.YtnahlpeckfcciaaDoorTk2
namespace Go.Proofs.YtnahlpeckfcciaaDoor
open Go.RowKit

/-- What a text of 1 to m digits denotes. -/
def digsD (l : List Nat) (m : Nat) : Option Nat := if (1 ≤ l.length ∧ l.length ≤ m) ∧ l.all isd = true then some (valD l) else none
theorem digsD_all {l : List Nat} (h : (digS l 0 0).1 = l.length) : l.all isd = true := by
  rw [List.all_eq_true]
  intro x hx
  have := digS_take l 0 0 x
  rw [h, Nat.sub_zero, List.take_length] at this
  exact this hx
theorem digS_all {l : List Nat} (h : l.all isd = true) (h15 : l.length ≤ 15) : digS l 0 0 = (l.length, valD l) := digS_nil (List.all_eq_true.1 h) h15
theorem intT_digs (neg : Bool) (t : List Nat) : intT neg t = (digsD t 15).map (fun v => if neg = true then -(v : Int) else v) := by
  unfold digsD
  by_cases h : (1 ≤ t.length ∧ t.length ≤ 15) ∧ t.all isd = true
  · rw [if_pos h]
    unfold intT
    rw [digS_all h.2 h.1.2, if_neg (by simp only; omega)]
    rfl
  · rw [if_neg h]
    unfold intT
    rw [if_pos]
    · rfl
    · apply Decidable.byContradiction
      intro hc
      have hl : (digS t 0 0).1 = t.length := by omega
      exact h ⟨by omega, digsD_all hl⟩
/-- The text ahead of the first c, and what is behind it. -/
def cutA (c : Nat) (l : List Nat) : List Nat := l.takeWhile (fun x => !decide (x = c))
def cutZ (c : Nat) (l : List Nat) : List Nat := (l.dropWhile (fun x => !decide (x = c))).tail
def cutB (c : Nat) (l : List Nat) : Bool := decide (c ∈ l)
theorem cut_none {c : Nat} {l : List Nat} (h : ∀ x ∈ l, x ≠ c) : cutA c l = l ∧ cutZ c l = [] ∧ cutB c l = false := by
  refine ⟨?_, ?_, ?_⟩
  · unfold cutA
    induction l with
    | nil => rfl
    | cons d l ih => rw [List.takeWhile_cons_of_pos (by simp [h d (by simp)]), ih (fun x hx => h x (by simp [hx]))]
  · unfold cutZ
    induction l with
    | nil => rfl
    | cons d l ih => rw [List.dropWhile_cons_of_pos (by simp [h d (by simp)]), ih (fun x hx => h x (by simp [hx]))]
  · unfold cutB; rw [decide_eq_false]; intro hc; exact h c hc rfl
theorem cut_some {c : Nat} {m u : List Nat} (h : ∀ x ∈ m, x ≠ c) : cutA c (m ++ c :: u) = m ∧ cutZ c (m ++ c :: u) = u ∧ cutB c (m ++ c :: u) = true := by
  induction m with
  | nil => simp [cutA, cutZ, cutB]
  | cons d m ih =>
    obtain ⟨h1, h2, h3⟩ := ih (fun x hx => h x (by simp [hx]))
    have hd : d ≠ c := h d (by simp)
    refine ⟨?_, ?_, ?_⟩
    · unfold cutA at h1 ⊢; rw [List.cons_append, List.takeWhile_cons_of_pos (by simp [hd]), h1]
    · unfold cutZ at h2 ⊢; rw [List.cons_append, List.dropWhile_cons_of_pos (by simp [hd]), h2]
    · unfold cutB; rw [decide_eq_true]; simp
theorem cut_cases (c : Nat) (l : List Nat) : (∀ x ∈ l, x ≠ c) ∨ ∃ m u, l = m ++ c :: u ∧ ∀ x ∈ m, x ≠ c := by
  induction l with
  | nil => left; simp
  | cons d l ih =>
    by_cases hd : d = c
    · right; exact ⟨[], l, by simp [hd], by simp⟩
    · rcases ih with h | ⟨m, u, h1, h2⟩
      · left; intro x hx
        rcases List.mem_cons.1 hx with rfl | hx
        · exact hd
        · exact h x hx
      · right
        refine ⟨d :: m, u, by simp [h1], fun x hx => ?_⟩
        rcases List.mem_cons.1 hx with rfl | hx
        · exact hd
        · exact h2 x hx
theorem isd_46 {x : Nat} (h : isd x = true) : x ≠ 46 := by
  have := isd_iff.1 h; omega
/-- A million times the number that a text without a sign denotes. -/
def milS (t : List Nat) : Option Nat :=
  match digsD (cutA 46 t) 5 with
  | none => none
  | some w => if cutB 46 t = false then some (w * 1000000) else
    match digsD (cutZ 46 t) 6 with
    | none => none
    | some f => some (w * 1000000 + f * 10 ^ (6 - (cutZ 46 t).length))
def nearQ (p q : Nat) : Nat := (2 * p + q) / (2 * q)
theorem nq_whole (w : Nat) : (2 * (w * 65536000000) + 1000000) / 2000000 = w * 65536 := by omega
theorem near_whole (w : Nat) : nearQ (w * 1000000 * 65536) 1000000 = w * 65536 := by
  unfold nearQ
  rw [show w * 1000000 * 65536 = w * 65536000000 by omega]
  exact nq_whole w
theorem near_frac {w f k : Nat} (h1 : 1 ≤ k) (h6 : k ≤ 6) : nearQ ((w * 1000000 + f * 10 ^ (6 - k)) * 65536) 1000000 = w * 65536 + (2 * f * 65536 + 10 ^ k) / (2 * 10 ^ k) := by
  unfold nearQ
  match k, h1, h6 with
  | 1, _, _ => simp; omega
  | 2, _, _ => simp; omega
  | 3, _, _ => simp; omega
  | 4, _, _ => simp; omega
  | 5, _, _ => simp; omega
  | 6, _, _ => simp; omega
theorem digsD_some {l : List Nat} {m v : Nat} (h : digsD l m = some v) : (1 ≤ l.length ∧ l.length ≤ m) ∧ l.all isd = true ∧ v = valD l := by
  unfold digsD at h
  split at h
  · rename_i hc; injection h with h; exact ⟨hc.1, hc.2, h.symm⟩
  · cases h
theorem digsD_none {l : List Nat} {m : Nat} (h : digsD l m = none) : ¬ ((1 ≤ l.length ∧ l.length ≤ m) ∧ l.all isd = true) := by
  intro hc; unfold digsD at h; rw [if_pos hc] at h; cases h
theorem num_mil (neg : Bool) (t : List Nat) : numT neg t = (milS t).bind (fun p => finN neg (nearQ (p * 65536) 1000000)) := by
  cases hb : digsD (cutA 46 t) 5 with
  | none =>
    have hm : milS t = none := by unfold milS; rw [hb]
    rw [hm]
    show numT neg t = none
    have hn := digsD_none hb
    unfold numT
    by_cases h0 : (digS t 0 0).1 < 1 ∨ 5 < (digS t 0 0).1
    · rw [if_pos h0]
    · rw [if_neg h0]
      have hle := (digS_le t 0 0).2
      have htk := digS_take t 0 0
      rw [Nat.sub_zero] at htk
      cases hd : t.drop (digS t 0 0).1 with
      | nil =>
        exfalso
        have hlen : (digS t 0 0).1 = t.length := by
          have := congrArg List.length hd
          simp at this; omega
        have hall := digsD_all hlen
        have hc := (cut_none (c := 46) (l := t) (fun x hx => isd_46 (List.all_eq_true.1 hall x hx))).1
        rw [hc] at hn
        exact hn ⟨by omega, hall⟩
      | cons c u =>
        unfold fracN
        by_cases hc : c = 46
        · exfalso
          subst hc
          have ht : t = t.take (digS t 0 0).1 ++ 46 :: u := by rw [← hd, List.take_append_drop]
          have hA : cutA 46 t = t.take (digS t 0 0).1 := by
            have := (cut_some (c := 46) (m := t.take (digS t 0 0).1) (u := u) (fun x hx => isd_46 (htk x hx))).1
            rwa [← ht] at this
          rw [hA] at hn
          refine hn ⟨?_, List.all_eq_true.2 htk⟩
          rw [List.length_take]; omega
        · simp only [hc, ne_eq, not_false_eq_true, true_or, if_true]
  | some w =>
    obtain ⟨hl, hall, hw⟩ := digsD_some hb
    rcases cut_cases 46 t with hno | ⟨m, u, ht, hm⟩
    · obtain ⟨c1, c2, c3⟩ := cut_none hno
      have hmS : milS t = some (w * 1000000) := by unfold milS; rw [hb]; simp only; rw [if_pos c3]
      rw [hmS, Option.bind_some, near_whole]
      rw [c1] at hl hall hw
      unfold numT
      rw [digS_all hall (by omega), if_neg (by simp only; omega)]
      simp only [List.drop_length]
      rw [hw]
      rfl
    · obtain ⟨c1, c2, c3⟩ := cut_some (c := 46) (u := u) hm
      rw [← ht] at c1 c2 c3
      rw [c1] at hl hall hw
      have hd : digS t 0 0 = (m.length, valD m) := by
        rw [ht]
        exact digS_of (List.all_eq_true.1 hall) (fun c v h => by injection h with h _; subst h; decide) (by omega)
      have hdr : t.drop m.length = 46 :: u := by rw [ht]; exact List.drop_left' rfl
      unfold numT
      rw [hd, if_neg (by simp only; omega), hdr]
      cases hf : digsD u 6 with
      | none =>
        have hmS : milS t = none := by unfold milS; rw [hb]; simp only; rw [if_neg (by rw [c3]; decide), c2, hf]
        rw [hmS]
        have hn := digsD_none hf
        unfold fracN
        simp only
        rw [if_pos]
        · rfl
        · apply Decidable.byContradiction
          intro hc
          have hl2 : (digS u 0 0).1 = u.length := by omega
          exact hn ⟨by omega, digsD_all hl2⟩
      | some f =>
        obtain ⟨fl, fall, fw⟩ := digsD_some hf
        have hmS : milS t = some (w * 1000000 + f * 10 ^ (6 - u.length)) := by unfold milS; rw [hb]; simp only; rw [if_neg (by rw [c3]; decide), c2, hf]
        rw [hmS, fracN_of (List.all_eq_true.1 fall) rfl fl.1 fl.2 fw.symm]
        rw [Option.bind_some, near_frac fl.1 fl.2, hw]
theorem isd_lt {l : List Nat} (h : l.all isd = true) : valD l < 10 ^ l.length := by
  have key : ∀ (l : List Nat), (∀ x ∈ l, isd x = true) → ∀ v k, v < 10 ^ k → l.foldl (fun v c => 10 * v + (c - 48)) v < 10 ^ (k + l.length) := by
    intro l
    induction l with
    | nil => intro _ v k hv; exact hv
    | cons c l ih =>
      intro hl v k hv
      rw [List.foldl_cons, List.length_cons, show k + (l.length + 1) = (k + 1) + l.length by omega]
      refine ih (fun x hx => hl x (by simp [hx])) _ _ ?_
      have := isd_iff.1 (hl c (by simp))
      rw [Nat.pow_succ]; omega
  have := key l (List.all_eq_true.1 h) 0 0 (by decide)
  rwa [Nat.zero_add] at this
theorem digsD_lt {l : List Nat} {m v : Nat} (h : digsD l m = some v) : v < 10 ^ m := by
  obtain ⟨⟨_, h2⟩, h3, rfl⟩ := digsD_some h
  exact Nat.lt_of_lt_of_le (isd_lt h3) (Nat.pow_le_pow_right (by decide) h2)
end Go.Proofs.YtnahlpeckfcciaaDoor
