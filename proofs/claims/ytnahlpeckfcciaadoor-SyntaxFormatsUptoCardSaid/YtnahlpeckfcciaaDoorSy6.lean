/- Proved: plain facts on descriptions: the statements of a text that begins with whole lines. Conditions: as each theorem states. -/
import Derived.Test.YtnahlpeckfcciaaDoorSy2
namespace Go.Proofs.YtnahlpeckfcciaaDoor
open Go.RowKit

theorem flush_more (st : Option Nat) (i line bg : Nat) (out : List Wd) : ∃ e, flush st i line bg out = out ++ e ∧ ∀ w ∈ e, w.line = line ∧ w.b = i := by
  cases st with
  | none => exact ⟨[], by simp [flush], by simp⟩
  | some a => exact ⟨[⟨a, i, line, (a : Int) - bg + 1⟩], rfl, by simp⟩
/-- One byte. -/
theorem run_step (c i line bg : Nat) (com : Bool) (st : Option Nat) (out : List Wd) : (¬ (9 ≤ c ∧ c ≤ 10 ∨ 32 ≤ c ∧ c ≤ 126) ∧ ∀ l, run (c :: l) i line bg com st out = .bad line) ∨
    ∃ line2 bg2 com2 st2 e, line ≤ line2 ∧ (∀ w ∈ e, w.line = line ∧ w.b = i) ∧ (c = 10 → line2 = line + 1 ∧ bg2 = i + 1 ∧ com2 = false ∧ st2 = none) ∧ ∀ l, run (c :: l) i line bg com st out = run l (i + 1) line2 bg2 com2 st2 (out ++ e) := by
  obtain ⟨e, he, hm⟩ := flush_more st i line bg out
  by_cases h10 : c = 10
  · exact .inr ⟨line + 1, i + 1, false, none, e, by omega, hm, fun _ => ⟨rfl, rfl, rfl, rfl⟩, fun l => by rw [run_line h10, he]⟩
  · cases com with
    | true => exact .inr ⟨line, bg, true, none, e, Nat.le_refl _, hm, fun h => absurd h h10, fun l => by rw [run_com h10, he]⟩
    | false =>
      cases hw : wb c with
      | true => exact .inr ⟨line, bg, false, some (st.getD i), [], Nat.le_refl _, by simp, fun h => absurd h h10, fun l => by rw [run_word hw, List.append_nil]⟩
      | false =>
        by_cases h35 : c = 35
        · exact .inr ⟨line, bg, true, none, e, Nat.le_refl _, hm, fun h => absurd h h10, fun l => by rw [run_hash h35, he]⟩
        · by_cases hg : c = 32 ∨ c = 9
          · exact .inr ⟨line, bg, false, none, e, Nat.le_refl _, hm, fun h => absurd h h10, fun l => by rw [run_gap hg, he]⟩
          · have := wb_not.1 hw
            exact .inl ⟨by omega, fun l => run_bad hw h10 h35 (by omega) (by omega)⟩
/-- Whole lines, and what is behind them. -/
theorem run_cat (x : List Nat) : ∀ (i line bg : Nat) (com : Bool) (st : Option Nat) (out : List Wd), (∃ k, ∀ y, run (x ++ 10 :: y) i line bg com st out = .bad k) ∨
    ∃ line' e, line < line' ∧ (∀ w ∈ e, w.line < line' ∧ w.b ≤ i + x.length) ∧ ∀ y, run (x ++ 10 :: y) i line bg com st out = run y (i + x.length + 1) line' (i + x.length + 1) false none (out ++ e) := by
  induction x with
  | nil =>
    intro i line bg com st out
    obtain ⟨e, he, hm⟩ := flush_more st i line bg out
    exact .inr ⟨line + 1, e, by omega, fun w hw => by have := hm w hw; simp; omega, fun y => by rw [List.nil_append, run_line rfl, he]; rfl⟩
  | cons c x ih =>
    intro i line bg com st out
    rcases run_step c i line bg com st out with ⟨_, h⟩ | ⟨line2, bg2, com2, st2, e, hl, hm, _, h⟩
    · exact .inl ⟨line, fun y => h _⟩
    · rcases ih (i + 1) line2 bg2 com2 st2 (out ++ e) with ⟨k, h2⟩ | ⟨line', e', hl', hm', h2⟩
      · exact .inl ⟨k, fun y => (h _).trans (h2 y)⟩
      · refine .inr ⟨line', e ++ e', by omega, fun w hw => ?_, fun y => ?_⟩
        · rcases List.mem_append.1 hw with hw | hw
          · have := hm w hw; simp; omega
          · have := hm' w hw; simp; omega
        · rw [List.cons_append, h, h2, List.append_assoc, List.length_cons]
          congr 1 <;> omega
/-- The words that are found later. -/
theorem run_more {l : List Nat} : ∀ {i line bg : Nat} {com : Bool} {st : Option Nat} {out W : List Wd}, run l i line bg com st out = .ok W → ∃ more, W = out ++ more ∧ ∀ w ∈ more, line ≤ w.line := by
  induction l with
  | nil =>
    intro i line bg com st out W h
    obtain ⟨e, he, hm⟩ := flush_more st i line bg out
    simp only [run] at h
    injection h with h
    exact ⟨e, by rw [← h, he], fun w hw => by have := hm w hw; omega⟩
  | cons c l ih =>
    intro i line bg com st out W h
    rcases run_step c i line bg com st out with ⟨_, h1⟩ | ⟨line2, bg2, com2, st2, e, hl, hm, _, h1⟩
    · rw [h1] at h; cases h
    · rw [h1] at h
      obtain ⟨more, hW, h2⟩ := ih h
      refine ⟨e ++ more, by rw [hW, List.append_assoc], fun w hw => ?_⟩
      rcases List.mem_append.1 hw with hw | hw
      · have := hm w hw; omega
      · have := h2 w hw; omega
/-- A text without other bytes has words. -/
theorem run_clean {l : List Nat} : ∀ {i line bg : Nat} {com : Bool} {st : Option Nat} {out : List Wd}, (∀ c ∈ l, 9 ≤ c ∧ c ≤ 10 ∨ 32 ≤ c ∧ c ≤ 126) → ∃ W, run l i line bg com st out = .ok W := by
  induction l with
  | nil => intro i line bg com st out _; exact ⟨_, rfl⟩
  | cons c l ih =>
    intro i line bg com st out hc
    rcases run_step c i line bg com st out with ⟨h0, _⟩ | ⟨line2, bg2, com2, st2, e, _, _, _, h1⟩
    · exact absurd (hc c (by simp)) h0
    · rw [h1]
      exact ih (fun x hx => hc x (by simp [hx]))
theorem grp_append {u v : List Tw} (h : ∀ a ∈ u, ∀ b ∈ v, a.l ≠ b.l) : grp (u ++ v) = grp u ++ grp v := by
  induction u with
  | nil => rfl
  | cons x u ih =>
    have ih' := ih (fun a ha b hb => h a (by simp [ha]) b hb)
    rw [List.cons_append, grp, ih']
    cases u with
    | nil =>
      cases v with
      | nil => rfl
      | cons y v =>
        obtain ⟨g, gs, h1, h2⟩ := grp_head y v
        rw [show grp ([] : List Tw) = [] from rfl, List.nil_append, h1]
        simp only
        rw [if_neg (by rw [h2]; exact (h x (by simp) y (by simp)).symm)]
        rfl
    | cons y u =>
      obtain ⟨g, gs, h1, h2⟩ := grp_head y u
      rw [show grp (x :: y :: u) = (match grp (y :: u) with
        | [] => [⟨x.l, x.t, []⟩]
        | g :: gs => if g.line = x.l then ⟨x.l, x.t, g.word :: g.args⟩ :: gs else ⟨x.l, x.t, []⟩ :: g :: gs) from rfl, h1, List.cons_append]
      simp only
      split <;> rfl
theorem chk_append_err {u v : List St} {e k : Int} : ∀ {n : Nat}, chk n u = some (e, k) → chk n (u ++ v) = some (e, k) := by
  induction u with
  | nil => intro n h; cases h
  | cons g u ih =>
    intro n h
    rw [chk] at h
    rw [List.cons_append, chk]
    split at h
    · rw [if_pos (by assumption)]; exact h
    · rw [if_neg (by assumption)]
      split at h
      · rw [if_pos (by assumption)]; exact h
      · rw [if_neg (by assumption)]
        split at h
        · rw [if_pos (by assumption)]; exact h
        · rw [if_neg (by assumption)]; exact ih h
theorem chk_codes {l : List St} {e k : Int} : ∀ {n : Nat}, chk n l = some (e, k) → e = 701 ∨ e = 702 ∨ e = 703 := by
  induction l with
  | nil => intro n h; cases h
  | cons g l ih =>
    intro n h
    rw [chk] at h
    split at h
    · injection h with h; injection h with h _; omega
    · split at h
      · injection h with h; injection h with h _; omega
      · split at h
        · injection h with h; injection h with h _; omega
        · exact ih h
theorem parse_code (s : ByteArray) : (parseS s).err = 0 ∨ (parseS s).err = 601 ∧ (parseS s).sts = [] ∨ (701 ≤ (parseS s).err ∧ (parseS s).err ≤ 703) ∧ (parseS s).sts = [] := by
  cases hs : splitS s with
  | bad k => rw [parse_bad hs]; exact .inr (.inl ⟨rfl, rfl⟩)
  | ok l =>
    cases hc : chk 0 (grp (l.map (wdT s))) with
    | none => rw [parse_ok hs hc]; exact .inl rfl
    | some p =>
      obtain ⟨e, k⟩ := p
      rw [parse_err hs hc]
      have := chk_codes hc
      exact .inr (.inr ⟨by dsimp only; omega, rfl⟩)
theorem word_front {a b : ByteArray} {x : Wd} (h : x.b ≤ a.size) : wdT (a ++ b) x = wdT a x := by
  unfold wdT
  congr 1
  apply bts_inj
  rw [bts_extract, bts_extract, bts_append]
  rcases Nat.lt_or_ge a.size x.a with hlt | hge
  · rw [show x.b - x.a = 0 by omega, List.take_zero, List.take_zero]
  · rw [List.drop_append_of_le_length (by rw [bts_len]; exact hge), List.take_append_of_le_length (by rw [List.length_drop, bts_len]; omega)]
/-- The first lines of a description have the first statements. -/
theorem parse_prefix {a b : ByteArray} (ha : bts a = [] ∨ ∃ x, bts a = x ++ [10]) (hb : ∀ c ∈ bts b, 9 ≤ c ∧ c ≤ 10 ∨ 32 ≤ c ∧ c ≤ 126) (hs : a.size + b.size ≤ 16384) :
    ((parseS a).err ≠ 0 → (parseS (a ++ b)).err = (parseS a).err ∧ (parseS (a ++ b)).ln = (parseS a).ln) ∧ ((parseS a).err = 0 → (parseS (a ++ b)).err = 0 → ∃ more, (parseS (a ++ b)).sts = (parseS a).sts ++ more) := by
  rcases ha with ha | ⟨x, hx⟩
  · have h0 : splitS a = .ok [] := by
      unfold splitS
      rw [if_neg (by omega), ha]
      rfl
    rw [parse_ok h0 (by rfl)]
    exact ⟨fun h => absurd rfl h, fun _ _ => ⟨_, rfl⟩⟩
  · have hsz : (a ++ b).size ≤ 16384 := by rw [ByteArray.size_append]; exact hs
    have hxl : x.length + 1 = a.size := by rw [← bts_len, hx]; simp
    have sa : splitS a = run (x ++ 10 :: []) 0 1 0 false none [] := by unfold splitS; rw [if_neg (by omega), hx]
    have sab : splitS (a ++ b) = run (x ++ 10 :: bts b) 0 1 0 false none [] := by unfold splitS; rw [if_neg (by omega), bts_append, hx, List.append_assoc]; rfl
    rcases run_cat x 0 1 0 false none [] with ⟨k, h⟩ | ⟨line', e, hl, hm, h⟩
    · rw [h] at sa sab
      rw [parse_bad sa, parse_bad sab]
      exact ⟨fun _ => ⟨rfl, rfl⟩, fun h => absurd h (by simp)⟩
    · rw [h] at sa sab
      rw [List.nil_append] at sa sab
      have sa2 : splitS a = .ok e := by rw [sa]; rfl
      obtain ⟨W, hW⟩ := run_clean (l := bts b) (i := 0 + x.length + 1) (line := line') (bg := 0 + x.length + 1) (com := false) (st := none) (out := e) hb
      obtain ⟨more, rfl, hmo⟩ := run_more hW
      have sab2 : splitS (a ++ b) = .ok (e ++ more) := by rw [sab, hW]
      have hmap : (e ++ more).map (wdT (a ++ b)) = e.map (wdT a) ++ more.map (wdT (a ++ b)) := by
        rw [List.map_append]
        congr 1
        exact List.map_congr_left fun w hw => word_front (by have := hm w hw; omega)
      have hg : grp ((e ++ more).map (wdT (a ++ b))) = grp (e.map (wdT a)) ++ grp (more.map (wdT (a ++ b))) := by
        rw [hmap]
        apply grp_append
        intro p hp q hq
        obtain ⟨w, hw, rfl⟩ := List.mem_map.1 hp
        obtain ⟨w', hw', rfl⟩ := List.mem_map.1 hq
        have h1 := hm w hw
        have h2 := hmo w' hw'
        simp only [wdT]
        omega
      cases hc : chk 0 (grp (e.map (wdT a))) with
      | some p =>
        obtain ⟨er, k⟩ := p
        rw [parse_err sa2 hc, parse_err sab2 (by rw [hg]; exact chk_append_err hc)]
        exact ⟨fun _ => ⟨rfl, rfl⟩, fun h => absurd h (by have := chk_codes hc; dsimp only; omega)⟩
      | none =>
        rw [parse_ok sa2 hc]
        refine ⟨fun h => absurd rfl h, fun _ h0 => ?_⟩
        cases hc2 : chk 0 (grp ((e ++ more).map (wdT (a ++ b)))) with
        | some p =>
          obtain ⟨er, k⟩ := p
          rw [parse_err sab2 hc2] at h0
          exact absurd h0 (by have := chk_codes hc2; dsimp only; omega)
        | none =>
          rw [parse_ok sab2 hc2]
          exact ⟨_, hg⟩
end Go.Proofs.YtnahlpeckfcciaaDoor
