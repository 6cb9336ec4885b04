/- Proved: plain facts on the numbers of chapter 6: what a decimal text denotes, which text a number has, and that the one undoes the other. Conditions: as each theorem states. Nothing of the program is used. -/
import Derived.Test.YtnahlpeckfcciaaDoorTk1
namespace Go.Proofs.YtnahlpeckfcciaaDoor
open Go.RowKit

def isd (c : Nat) : Bool := decide (48 ≤ c) && decide (c ≤ 57)
theorem isd_iff {c : Nat} : isd c = true ↔ 48 ≤ c ∧ c ≤ 57 := by simp [isd]
theorem isd_not {c : Nat} : isd c = false ↔ c < 48 ∨ 57 < c := by
  have := isd_iff (c := c)
  cases h : isd c
  · simp [h] at this ⊢; omega
  · simp [h] at this ⊢; omega
/-- How many digits l begins with, n of them being read with the value v; of the first fifteen the value. -/
def digS : List Nat → Nat → Nat → Nat × Nat
  | [], n, v => (n, v)
  | c :: l, n, v => if isd c = true then digS l (n + 1) (if n < 15 then 10 * v + (c - 48) else v) else (n, v)
theorem digS_yes {c : Nat} {l : List Nat} {n v : Nat} (h : isd c = true) : digS (c :: l) n v = digS l (n + 1) (if n < 15 then 10 * v + (c - 48) else v) := by rw [digS, if_pos h]
theorem digS_no {c : Nat} {l : List Nat} {n v : Nat} (h : isd c = false) : digS (c :: l) n v = (n, v) := by rw [digS, if_neg (by simp [h])]
theorem digS_le (l : List Nat) (n v : Nat) : n ≤ (digS l n v).1 ∧ (digS l n v).1 ≤ n + l.length := by
  induction l generalizing n v with
  | nil => exact ⟨Nat.le_refl _, Nat.le_refl _⟩
  | cons c l ih =>
    rw [digS]
    split
    · have := ih (n + 1) (if n < 15 then 10 * v + (c - 48) else v)
      simp only [List.length_cons]; omega
    · simp
/-- The step of a value of digits keeps it small. -/
theorem dig_step {n v c : Nat} (hc : isd c = true) (h : v < 10 ^ min n 15) : (if n < 15 then 10 * v + (c - 48) else v) < 10 ^ min (n + 1) 15 := by
  have := isd_iff.1 hc
  by_cases hn : n < 15
  · rw [if_pos hn]
    rw [Nat.min_eq_left (by omega)] at h ⊢
    rw [Nat.pow_succ]; omega
  · rw [if_neg hn]
    rw [Nat.min_eq_right (by omega)] at h ⊢
    exact h
theorem digS_lt (l : List Nat) (n v : Nat) (h : v < 10 ^ min n 15) : (digS l n v).2 < 10 ^ min (digS l n v).1 15 := by
  induction l generalizing n v with
  | nil => exact h
  | cons c l ih =>
    rw [digS]
    split
    · rename_i hc; exact ih _ _ (dig_step hc h)
    · exact h
theorem pow15 : (10 : Nat) ^ 15 = 1000000000000000 := by decide
theorem pow_le15 (n : Nat) : (10 : Nat) ^ min n 15 ≤ 1000000000000000 := by
  rw [← pow15]; exact Nat.pow_le_pow_right (by decide) (Nat.min_le_right _ _)
def valD (l : List Nat) : Nat := l.foldl (fun v c => 10 * v + (c - 48)) 0
theorem valD_snoc (l : List Nat) (c : Nat) : valD (l ++ [c]) = 10 * valD l + (c - 48) := by simp [valD]
/-- Digits, and then none. -/
theorem digS_of {m l : List Nat} (hm : ∀ x ∈ m, isd x = true) (hl : ∀ c u, l = c :: u → isd c = false) (h15 : m.length ≤ 15) : digS (m ++ l) 0 0 = (m.length, valD m) := by
  have key : ∀ (m : List Nat) (n v : Nat), (∀ x ∈ m, isd x = true) → n + m.length ≤ 15 → digS (m ++ l) n v = (n + m.length, m.foldl (fun v c => 10 * v + (c - 48)) v) := by
    intro m
    induction m with
    | nil =>
      intro n v _ _
      cases l with
      | nil => rfl
      | cons c u => exact digS_no (hl c u rfl)
    | cons c m ih =>
      intro n v h hn
      simp only [List.length_cons] at hn
      rw [List.cons_append, digS_yes (h c (by simp)), if_pos (by omega)]
      show digS (m ++ l) (n + 1) (10 * v + (c - 48)) = _
      rw [ih _ _ (fun x hx => h x (by simp [hx])) (by omega)]
      simp only [List.length_cons, List.foldl_cons]
      congr 1
      omega
  have := key m 0 0 hm (by omega)
  rw [this]; simp [valD]
theorem digS_nil {m : List Nat} (hm : ∀ x ∈ m, isd x = true) (h15 : m.length ≤ 15) : digS m 0 0 = (m.length, valD m) := by
  have := digS_of (l := []) hm (fun c u h => by cases h) h15
  rwa [List.append_nil] at this
/-- What was read were digits. -/
theorem digS_take (l : List Nat) : ∀ n v, ∀ x ∈ l.take ((digS l n v).1 - n), isd x = true := by
  induction l with
  | nil => simp
  | cons c l ih =>
    intro n v x hx
    rw [digS] at hx
    split at hx
    · rename_i hc
      have hle := (digS_le l (n + 1) (if n < 15 then 10 * v + (c - 48) else v)).1
      obtain ⟨k, hk⟩ : ∃ k, (digS l (n + 1) (if n < 15 then 10 * v + (c - 48) else v)).1 - n = k + 1 := ⟨(digS l (n + 1) (if n < 15 then 10 * v + (c - 48) else v)).1 - n - 1, by omega⟩
      rw [hk, List.take_succ_cons] at hx
      rcases List.mem_cons.1 hx with rfl | hx
      · exact hc
      · refine ih (n + 1) (if n < 15 then 10 * v + (c - 48) else v) x ?_
        have : (digS l (n + 1) (if n < 15 then 10 * v + (c - 48) else v)).1 - (n + 1) = k := by omega
        rw [this]; exact hx
    · simp at hx
theorem digS_stop (l : List Nat) : ∀ n v, ∀ c u, l.drop ((digS l n v).1 - n) = c :: u → isd c = false := by
  induction l with
  | nil => simp
  | cons c l ih =>
    intro n v d u hx
    rw [digS] at hx
    split at hx
    · rename_i hc
      have hle := (digS_le l (n + 1) (if n < 15 then 10 * v + (c - 48) else v)).1
      obtain ⟨k, hk⟩ : ∃ k, (digS l (n + 1) (if n < 15 then 10 * v + (c - 48) else v)).1 - n = k + 1 := ⟨(digS l (n + 1) (if n < 15 then 10 * v + (c - 48) else v)).1 - n - 1, by omega⟩
      rw [hk, List.drop_succ_cons] at hx
      refine ih (n + 1) (if n < 15 then 10 * v + (c - 48) else v) d u ?_
      have : (digS l (n + 1) (if n < 15 then 10 * v + (c - 48) else v)).1 - (n + 1) = k := by omega
      rw [this]; exact hx
    · rename_i hc
      simp at hx
      obtain ⟨rfl, _⟩ := hx
      simpa using hc
/-- A sign ahead of a number. -/
def sgnB (l : List Nat) : Bool := match l with | c :: _ => decide (c = 45) | [] => false
def sgnT (l : List Nat) : List Nat := if sgnB l = true then l.tail else l
def finN (neg : Bool) (v : Nat) : Option Int := if 2147483648 < v then none else some (if neg = true then -(v : Int) else v)
def fracN (neg : Bool) (w : Nat) (u : List Nat) : Option Int :=
  match u with
  | [] => finN neg (w * 65536)
  | c :: u => if c ≠ 46 ∨ (digS u 0 0).1 < 1 ∨ 6 < (digS u 0 0).1 ∨ (digS u 0 0).1 ≠ u.length then none
    else finN neg (w * 65536 + (2 * (digS u 0 0).2 * 65536 + 10 ^ (digS u 0 0).1) / (2 * 10 ^ (digS u 0 0).1))
def numT (neg : Bool) (t : List Nat) : Option Int := if (digS t 0 0).1 < 1 ∨ 5 < (digS t 0 0).1 then none else fracN neg (digS t 0 0).2 (t.drop (digS t 0 0).1)
/-- The fixed-point number that a text denotes. -/
def numS (l : List Nat) : Option Int := numT (sgnB l) (sgnT l)
def intT (neg : Bool) (t : List Nat) : Option Int := if (digS t 0 0).1 < 1 ∨ 15 < (digS t 0 0).1 ∨ (digS t 0 0).1 ≠ t.length then none else some (if neg = true then -((digS t 0 0).2 : Int) else (digS t 0 0).2)
/-- The integer that a text denotes. -/
def intS (l : List Nat) : Option Int := intT (sgnB l) (sgnT l)
def low (c : Nat) : Bool := decide (97 ≤ c) && decide (c ≤ 122)
def nameB (c : Nat) : Bool := low c || (decide (c = 95) || isd c)
def worldL : List Nat := [119, 111, 114, 108, 100]
/-- Whether a text is a name. -/
def nameS (l : List Nat) : Bool := decide (1 ≤ l.length) && (decide (l.length ≤ 16) && (!decide (l = worldL) && (low (l.headD 0) && l.all nameB)))
def outI (o : Option Int) : Int := o.getD 0
def outB (o : Option Int) : Bool := o.isSome

/-- The last m digits of n. -/
def decD : Nat → Nat → List Nat
  | 0, _ => []
  | m + 1, n => decD m (n / 10) ++ [48 + n % 10]
theorem decD_len (m n : Nat) : (decD m n).length = m := by
  induction m generalizing n with
  | zero => rfl
  | succ m ih => rw [decD, List.length_append, ih]; rfl
theorem decD_dig (m n : Nat) : ∀ x ∈ decD m n, isd x = true := by
  induction m generalizing n with
  | zero => intro x hx; cases hx
  | succ m ih =>
    intro x hx
    rw [decD] at hx
    rcases List.mem_append.1 hx with hx | hx
    · exact ih _ x hx
    · simp at hx; subst hx; exact isd_iff.2 (by omega)
theorem decD_val (m n : Nat) (h : n < 10 ^ m) : valD (decD m n) = n := by
  induction m generalizing n with
  | zero => simp at h; subst h; rfl
  | succ m ih => rw [decD, valD_snoc, ih _ (by rw [Nat.pow_succ] at h; omega)]; omega
/-- A digit ahead. -/
theorem decD_cons (m n : Nat) : decD (m + 1) n = (48 + n / 10 ^ m % 10) :: decD m n := by
  induction m generalizing n with
  | zero => simp [decD]
  | succ m ih =>
    rw [decD, ih, decD, List.cons_append, Nat.div_div_eq_div_mul]
    congr 4
    rw [Nat.pow_succ, Nat.mul_comm]
/-- j is the number of digits of n that are written if at least k are wanted. -/
def DecLen (n k j : Nat) : Prop := n < 10 ^ j ∧ k ≤ j ∧ (j = k ∨ (1 ≤ j ∧ 10 ^ (j - 1) ≤ n))
theorem decLen_one {n k i j : Nat} (hi : DecLen n k i) (hj : DecLen n k j) : i = j := by
  have key : ∀ {i j : Nat}, DecLen n k i → DecLen n k j → i ≤ j := by
    intro i j hi hj
    rcases hi.2.2 with h | ⟨h1, h⟩
    · have := hj.2.1; omega
    · apply Decidable.byContradiction
      intro hc
      have h2 : 10 ^ j ≤ 10 ^ (i - 1) := Nat.pow_le_pow_right (by decide) (by omega)
      have := hj.1; omega
  exact Nat.le_antisymm (key hi hj) (key hj hi)
/-- The digits of n, k at least. -/
def decN (n k : Nat) : Nat := if n < 10 ^ k then k else (List.range 40).find? (fun j => decide (k ≤ j) && decide (n < 10 ^ j)) |>.getD 0
theorem decLen_five {n : Nat} (h : n ≤ 99999) : ∃ j, DecLen n 1 j ∧ 1 ≤ j ∧ j ≤ 5 := by
  by_cases h1 : n < 10
  · exact ⟨1, ⟨by simpa using h1, by decide, .inl rfl⟩, by decide, by decide⟩
  · by_cases h2 : n < 100
    · exact ⟨2, ⟨by simpa using h2, by decide, .inr ⟨by decide, by simpa using (by omega : 10 ≤ n)⟩⟩, by decide, by decide⟩
    · by_cases h3 : n < 1000
      · exact ⟨3, ⟨by simpa using h3, by decide, .inr ⟨by decide, by simpa using (by omega : 100 ≤ n)⟩⟩, by decide, by decide⟩
      · by_cases h4 : n < 10000
        · exact ⟨4, ⟨by simpa using h4, by decide, .inr ⟨by decide, by simpa using (by omega : 1000 ≤ n)⟩⟩, by decide, by decide⟩
        · exact ⟨5, ⟨by simpa using (by omega : n < 100000), by decide, .inr ⟨by decide, by simpa using (by omega : 10000 ≤ n)⟩⟩, by decide, by decide⟩
/-- A list without the zeros at its end. -/
def trimZ (l : List Nat) : List Nat := (l.reverse.dropWhile (fun c => decide (c = 48))).reverse
theorem trimZ_zero (l : List Nat) : trimZ (l ++ [48]) = trimZ l := by simp [trimZ]
theorem trimZ_other (l : List Nat) {c : Nat} (h : c ≠ 48) : trimZ (l ++ [c]) = l ++ [c] := by simp [trimZ, h]
theorem trimZ_take (l : List Nat) : ∃ k, k ≤ l.length ∧ trimZ l = l.take k ∧ (∀ x ∈ l.drop k, x = 48) := by
  induction hn : l.length using Nat.strongRecOn generalizing l with
  | _ n ih =>
    rcases List.eq_nil_or_concat l with rfl | ⟨m, c, rfl⟩
    · exact ⟨0, by omega, rfl, by simp⟩
    · rw [List.concat_eq_append] at *
      by_cases hc : c = 48
      · subst hc
        obtain ⟨k, h1, h2, h3⟩ := ih m.length (by simp at hn; omega) m rfl
        refine ⟨k, by simp at hn; omega, by rw [trimZ_zero, h2, List.take_append_of_le_length h1], fun x hx => ?_⟩
        rw [List.drop_append_of_le_length h1] at hx
        rcases List.mem_append.1 hx with hx | hx
        · exact h3 x hx
        · simpa using hx
      · exact ⟨(m ++ [c]).length, by omega, by rw [trimZ_other m hc, List.take_length], by simp⟩
theorem valD_zeros (l : List Nat) (m : List Nat) (h : ∀ x ∈ m, x = 48) : valD (l ++ m) = valD l * 10 ^ m.length := by
  induction m generalizing l with
  | nil => simp
  | cons c m ih =>
    have hc : c = 48 := h c (by simp)
    subst hc
    rw [show l ++ 48 :: m = (l ++ [48]) ++ m by simp, ih _ (fun x hx => h x (by simp [hx])), valD_snoc, List.length_cons, Nat.pow_succ]
    simp only [Nat.sub_self, Nat.add_zero]
    rw [Nat.mul_comm 10, Nat.mul_assoc, Nat.mul_comm 10]
def fracQ (f : Nat) : Nat := (2 * f * 100000 + 65536) / 131072
/-- The text of the digits behind the point, with the point. -/
def fracS (f : Nat) : List Nat := if f = 0 then [] else 46 :: trimZ (decD 5 (fracQ f))
/-- l is the text of x, from -Max to Max. -/
def FmtOf (x : Int) (l : List Nat) : Prop := ∃ j, DecLen (x.natAbs / 65536) 1 j ∧ l = (if x < 0 then [45] else []) ++ decD j (x.natAbs / 65536) ++ fracS (x.natAbs % 65536)
theorem fmt_one {x : Int} {l m : List Nat} (hl : FmtOf x l) (hm : FmtOf x m) : l = m := by
  obtain ⟨i, hi, rfl⟩ := hl
  obtain ⟨j, hj, rfl⟩ := hm
  rw [decLen_one hi hj]
theorem sgn_neg (l : List Nat) : sgnB (45 :: l) = true ∧ sgnT (45 :: l) = l := by simp [sgnB, sgnT]
theorem sgn_pos {l : List Nat} {c : Nat} {u : List Nat} (h : l = c :: u) (hc : c ≠ 45) : sgnB l = false ∧ sgnT l = l := by subst h; simp [sgnB, sgnT, hc]
/-- A number of j digits and the digits behind the point. -/
theorem numT_of {neg : Bool} {j m : Nat} {r : List Nat} (hm : m < 10 ^ j) (h1 : 1 ≤ j) (h5 : j ≤ 5) (hr : ∀ c u, r = c :: u → isd c = false) :
    numT neg (decD j m ++ r) = fracN neg m r := by
  have hd := digS_of (decD_dig j m) hr (by rw [decD_len]; omega)
  rw [decD_len, decD_val j m hm] at hd
  unfold numT
  rw [hd, if_neg (by simp only; omega), List.drop_left' (decD_len j m)]
/-- Digits behind the point. -/
theorem fracN_of {neg : Bool} {w k p : Nat} {u : List Nat} (hu : ∀ x ∈ u, isd x = true) (hk : u.length = k) (h1 : 1 ≤ k) (h6 : k ≤ 6) (hp : valD u = p) :
    fracN neg w (46 :: u) = finN neg (w * 65536 + (2 * p * 65536 + 10 ^ k) / (2 * 10 ^ k)) := by
  have hd := digS_nil hu (by omega)
  unfold fracN
  simp only [hd]
  rw [if_neg (by omega), hp, hk]
theorem frac_lin (q f : Nat) (h1 : q * 131072 ≤ 200000 * f + 65536) (h2 : 200000 * f + 65536 < q * 131072 + 131072) : (131072 * q + 100000) / 200000 = f := by omega
theorem fracQ_at (f : Nat) : fracQ f * 131072 ≤ 200000 * f + 65536 ∧ 200000 * f + 65536 < fracQ f * 131072 + 131072 := by
  have e : fracQ f = (200000 * f + 65536) / 131072 := by unfold fracQ; rw [show 2 * f * 100000 = 200000 * f by omega]
  rw [e]; omega
theorem frac_back {k p f : Nat} (_hf : f < 65536) (hk : k ≤ 5) (hq : fracQ f = p * 10 ^ (5 - k)) : (2 * p * 65536 + 10 ^ k) / (2 * 10 ^ k) = f := by
  have e : (2 * p * 65536 + 10 ^ k) / (2 * 10 ^ k) = (2 * fracQ f * 65536 + 100000) / 200000 := by
    rw [hq]
    match k, hk with
    | 0, _ => simp; omega
    | 1, _ => simp; omega
    | 2, _ => simp; omega
    | 3, _ => simp; omega
    | 4, _ => simp; omega
    | 5, _ => simp
  rw [e]
  obtain ⟨b1, b2⟩ := fracQ_at f
  have := frac_lin (fracQ f) f b1 b2
  rwa [show 2 * fracQ f * 65536 = 131072 * fracQ f by omega]
theorem fracQ_bd {f : Nat} (h0 : f ≠ 0) (h : f < 65536) : 1 ≤ fracQ f ∧ fracQ f < 100000 := by unfold fracQ; omega
theorem valD_zero (m : List Nat) (h : ∀ x ∈ m, x = 48) : valD m = 0 := by have := valD_zeros [] m h; simpa [valD] using this
/-- Format's text is read as the number. -/
theorem num_fmt {x : Int} {l : List Nat} (h1 : -2147483648 ≤ x) (h2 : x ≤ 2147483648) (h : FmtOf x l) : numS l = some x := by
  obtain ⟨j, hj, rfl⟩ := h
  obtain ⟨m, hm⟩ : ∃ m, x.natAbs / 65536 = m := ⟨_, rfl⟩
  obtain ⟨f, hf⟩ : ∃ f, x.natAbs % 65536 = f := ⟨_, rfl⟩
  have hm5 : m ≤ 32768 := by omega
  have hf6 : f < 65536 := by omega
  rw [hm] at hj ⊢
  rw [hf]
  obtain ⟨j', hj', h1', h5'⟩ := decLen_five (n := m) (by omega)
  have e := decLen_one hj hj'
  subst e
  have hr : ∀ c u, fracS f = c :: u → isd c = false := by
    intro c u h
    unfold fracS at h
    split at h
    · cases h
    · injection h with h _; subst h; decide
  have hfin : ∀ neg, (neg = true ↔ x < 0) → finN neg (m * 65536 + f) = some x := by
    intro neg hn
    unfold finN
    rw [if_neg (by omega)]
    by_cases hx : x < 0
    · rw [if_pos (hn.2 hx)]; congr 1; omega
    · rw [if_neg (fun h => hx (hn.1 h))]; congr 1; omega
  have hfrac : ∀ neg, (neg = true ↔ x < 0) → fracN neg m (fracS f) = some x := by
    intro neg hn
    unfold fracS
    by_cases h0 : f = 0
    · rw [if_pos h0]
      show finN neg (m * 65536) = _
      have := hfin neg hn
      rw [h0, Nat.add_zero] at this
      exact this
    · rw [if_neg h0]
      obtain ⟨q1, q2⟩ := fracQ_bd h0 hf6
      obtain ⟨k, hk, ht, hz⟩ := trimZ_take (decD 5 (fracQ f))
      rw [decD_len] at hk
      have hdd := decD_dig 5 (fracQ f)
      have hv := decD_val 5 (fracQ f) (by simpa using q2)
      have hs := valD_zeros ((decD 5 (fracQ f)).take k) ((decD 5 (fracQ f)).drop k) hz
      rw [List.take_append_drop, hv, List.length_drop, decD_len] at hs
      have hk1 : 1 ≤ k := by
        rcases Nat.eq_zero_or_pos k with rfl | h
        · simp [valD] at hs; omega
        · exact h
      rw [ht, fracN_of (k := k) (p := valD ((decD 5 (fracQ f)).take k)) (fun x hx => hdd x (List.mem_of_mem_take hx)) (by rw [List.length_take, decD_len]; omega) hk1 (by omega) rfl]
      rw [frac_back hf6 hk hs]
      exact hfin neg hn
  by_cases hx : x < 0
  · rw [if_pos hx]
    show numT (sgnB (45 :: (decD j m ++ fracS f))) (sgnT (45 :: (decD j m ++ fracS f))) = _
    rw [(sgn_neg _).1, (sgn_neg _).2, numT_of hj.1 h1' h5' hr]
    exact hfrac true (by simp [hx])
  · rw [if_neg hx, List.nil_append]
    obtain ⟨i, rfl⟩ : ∃ i, j = i + 1 := ⟨j - 1, by omega⟩
    have hc : decD (i + 1) m ++ fracS f = (48 + m / 10 ^ i % 10) :: (decD i m ++ fracS f) := by rw [decD_cons]; rfl
    obtain ⟨s1, s2⟩ := sgn_pos hc (by omega)
    unfold numS
    rw [s1, s2, numT_of hj.1 h1' h5' hr]
    exact hfrac false (by simp [hx])
/-- A decimal text of few digits is read as the nearest multiple of 1/65536. -/
theorem num_near {w f j n : Nat} (hw : w < 32000) (hj : DecLen w 1 j) (hn : 1 ≤ n) (h4 : n ≤ 4) (hf : f < 10 ^ n) :
    numS (decD j w ++ 46 :: decD n f) = some ((w * 65536 + (2 * f * 65536 + 10 ^ n) / (2 * 10 ^ n) : Nat) : Int) := by
  obtain ⟨j', hj', h1', h5'⟩ := decLen_five (n := w) (by omega)
  have e := decLen_one hj hj'
  subst e
  obtain ⟨i, rfl⟩ : ∃ i, j = i + 1 := ⟨j - 1, by omega⟩
  have hc : decD (i + 1) w ++ 46 :: decD n f = (48 + w / 10 ^ i % 10) :: (decD i w ++ 46 :: decD n f) := by rw [decD_cons]; rfl
  obtain ⟨s1, s2⟩ := sgn_pos hc (by omega)
  unfold numS
  rw [s1, s2, numT_of hj.1 h1' h5' (fun c u h => by injection h with h _; subst h; decide)]
  rw [fracN_of (k := n) (p := f) (decD_dig n f) (decD_len n f) hn (by omega) (decD_val n f hf)]
  unfold finN
  have hq : (2 * f * 65536 + 10 ^ n) / (2 * 10 ^ n) ≤ 65536 := by
    match n, hn, h4 with
    | 1, _, _ => simp at hf ⊢; omega
    | 2, _, _ => simp at hf ⊢; omega
    | 3, _, _ => simp at hf ⊢; omega
    | 4, _, _ => simp at hf ⊢; omega
  rw [if_neg (by omega), if_neg (by decide)]
/-- .. and it is near. -/
theorem near_ok {w f n : Nat} (hn : 1 ≤ n) (h4 : n ≤ 4) :
    let x : Int := ((w * 65536 + (2 * f * 65536 + 10 ^ n) / (2 * 10 ^ n) : Nat) : Int)
    let d : Int := x * (10 ^ n : Nat) - (w * (10 ^ n : Nat) + f) * 65536
    2 * d ≤ (10 ^ n : Nat) ∧ -2 * d < (10 ^ n : Nat) := by
  match n, hn, h4 with
  | 1, _, _ => simp; omega
  | 2, _, _ => simp; omega
  | 3, _, _ => simp; omega
  | 4, _, _ => simp; omega
end Go.Proofs.YtnahlpeckfcciaaDoor
