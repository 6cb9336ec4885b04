/- Proved: plain facts on robots: what Check finds, the chain of a link, and what lies between two links. Conditions: as each theorem states. · Proved: robots in memory: reading them at any place, the maker of robots, and that what it makes has no error. Conditions: as each theorem states. · Proved: the reference's Find, Near, isLink, checkJoint and CheckRobot at whatever robot return what their namesakes in Rb1 compute. Conditions: as each theorem states. -/
import Derived.Test.YtpaiapcnoifpmaaDoorSy12
import Derived.Test.YtpaiapcnoifpmaaDoorSrc
import Derived.Test.YtpaiapcnoifpmaaDoorSy4
import Derived.Deep.QuietTactic
namespace Go.Proofs.YtpaiapcnoifpmaaDoor
open Go.RowKit

/-- The place of the first joint with a name, or -1. -/
def findK (js : List JointD) (b : ByteArray) : Int := match js.findIdx? (fun j => decide (j.name = b)) with
  | some i => i
  | none => -1
theorem find_at {js : List JointD} {b : ByteArray} {k : Nat} (hk : k < js.length) (h : ∀ i (hi : i < k), js[i].name ≠ b) (he : js[k].name = b) : findK js b = k := by
  unfold findK
  have : js.findIdx? (fun j => decide (j.name = b)) = some k := by
    rw [List.findIdx?_eq_some_iff_getElem]
    exact ⟨hk, by simpa using he, fun i hi => by simpa using h i hi⟩
  rw [this]
theorem find_none {js : List JointD} {b : ByteArray} (h : ∀ i (hi : i < js.length), js[i].name ≠ b) : findK js b = -1 := by
  unfold findK
  have : js.findIdx? (fun j => decide (j.name = b)) = none := by
    rw [List.findIdx?_eq_none_iff]
    intro j hj
    obtain ⟨i, hi, rfl⟩ := List.getElem_of_mem hj
    simpa using h i hi
  rw [this]
theorem find_range (js : List JointD) (b : ByteArray) : -1 ≤ findK js b ∧ findK js b < js.length := by
  unfold findK
  cases h : js.findIdx? (fun j => decide (j.name = b)) with
  | none => exact ⟨by simp, by simp only; omega⟩
  | some i => have := List.findIdx?_eq_some_iff_getElem.1 h; obtain ⟨hi, _⟩ := this; exact ⟨by simp only; omega, by simp only; omega⟩
def costOk (j : JointD) : Bool := ((decide (1 ≤ j.weight) && decide (j.weight ≤ 1024)) && (decide (1 ≤ j.speed) && decide (j.speed ≤ 1048576))) && ((decide (1 ≤ j.accel) && decide (j.accel ≤ 1048576)) && (decide (1 ≤ j.torque) && decide (j.torque ≤ 1099511627776)))
/-- The error of joint i. -/
def errJ (js : List JointD) (i : Nat) : Int :=
  if nameS (bts (js.getD i zeroJ).name) = false then 802
  else if (js.take i).any (fun k => decide (k.name = (js.getD i zeroJ).name)) = true then 802
  else if (js.getD i zeroJ).kind < 0 ∨ 6 < (js.getD i zeroJ).kind then 803
  else if (js.getD i zeroJ).parent < -1 ∨ (i : Int) ≤ (js.getD i zeroJ).parent then 804
  else if near3 ⟨(js.getD i zeroJ).x, (js.getD i zeroJ).y, (js.getD i zeroJ).z⟩ 4194304 = false then 805
  else if (js.getD i zeroJ).hi < (js.getD i zeroJ).lo ∨ (js.getD i zeroJ).lo < -(reachK (js.getD i zeroJ).kind) ∨ reachK (js.getD i zeroJ).kind < (js.getD i zeroJ).hi then 806
  else if costOk (js.getD i zeroJ) = false then 807
  else 0
def massOk (n : Nat) (m : MassD) : Bool := decide (0 ≤ m.link ∧ m.link < n) && ((decide (1 ≤ m.mass) && decide (m.mass ≤ 65536)) && near3 ⟨m.x, m.y, m.z⟩ 4194304)
/-- What Check returns. -/
def checkR (js : List JointD) (ms : List MassD) : Int :=
  if js.length < 1 ∨ 10 < js.length then 801
  else match (List.range js.length).find? (fun i => decide (errJ js i ≠ 0)) with
    | some i => errJ js i
    | none => if 32 < ms.length then 808 else if ms.all (massOk js.length) = true then 0 else 808
theorem check_joints {js : List JointD} {ms : List MassD} (h : js.length < 1 ∨ 10 < js.length) : checkR js ms = 801 := by unfold checkR; rw [if_pos h]
theorem check_joint {js : List JointD} {ms : List MassD} (h : ¬ (js.length < 1 ∨ 10 < js.length)) {k : Nat} (hk : k < js.length) (h0 : ∀ i, i < k → errJ js i = 0) (he : errJ js k ≠ 0) : checkR js ms = errJ js k := by
  unfold checkR
  rw [if_neg h]
  have : (List.range js.length).find? (fun i => decide (errJ js i ≠ 0)) = some k := by
    rw [List.find?_eq_some_iff_getElem]
    exact ⟨by simpa using he, k, by simpa using hk, by simp, fun j hj => by simp [h0 j hj]⟩
  rw [this]
theorem check_none {js : List JointD} (h0 : ∀ i, i < js.length → errJ js i = 0) : (List.range js.length).find? (fun i => decide (errJ js i ≠ 0)) = none := by
  rw [List.find?_eq_none]
  intro i hi
  simp [h0 i (by simpa using hi)]
theorem check_many {js : List JointD} {ms : List MassD} (h : ¬ (js.length < 1 ∨ 10 < js.length)) (h0 : ∀ i, i < js.length → errJ js i = 0) (hm : 32 < ms.length) : checkR js ms = 808 := by
  unfold checkR
  rw [if_neg h, check_none h0]
  simp only
  rw [if_pos hm]
theorem check_mass {js : List JointD} {ms : List MassD} (h : ¬ (js.length < 1 ∨ 10 < js.length)) (h0 : ∀ i, i < js.length → errJ js i = 0) {k : Nat} (hk : k < ms.length) (he : massOk js.length ms[k] = false) : checkR js ms = 808 := by
  unfold checkR
  rw [if_neg h, check_none h0]
  simp only
  have : ¬ ms.all (massOk js.length) = true := by
    intro ha
    rw [List.all_eq_true] at ha
    rw [ha _ (List.getElem_mem hk)] at he
    cases he
  rw [if_neg this]
  split <;> rfl
theorem check_fine {js : List JointD} {ms : List MassD} (h : ¬ (js.length < 1 ∨ 10 < js.length)) (h0 : ∀ i, i < js.length → errJ js i = 0) (hm : ¬ 32 < ms.length) (hk : ∀ k (hk : k < ms.length), massOk js.length ms[k] = true) : checkR js ms = 0 := by
  unfold checkR
  rw [if_neg h, check_none h0]
  simp only
  rw [if_neg hm, if_pos]
  rw [List.all_eq_true]
  intro m hmm
  obtain ⟨k, hk2, rfl⟩ := List.getElem_of_mem hmm
  exact hk k hk2
/-- What Check lets by. -/
theorem check_zero {js : List JointD} {ms : List MassD} (h : checkR js ms = 0) : (1 ≤ js.length ∧ js.length ≤ 10) ∧ (∀ i, i < js.length → errJ js i = 0) ∧ ms.length ≤ 32 ∧ ∀ k (hk : k < ms.length), massOk js.length ms[k] = true := by
  by_cases h1 : js.length < 1 ∨ 10 < js.length
  · rw [check_joints h1] at h; exact absurd h (by decide)
  · have h2 : ∀ i, i < js.length → errJ js i = 0 := by
      unfold checkR at h
      rw [if_neg h1] at h
      cases hf : (List.range js.length).find? (fun i => decide (errJ js i ≠ 0)) with
      | some i =>
        rw [hf] at h
        have := List.find?_some hf
        simp at this
        exact absurd h this
      | none =>
        rw [List.find?_eq_none] at hf
        intro i hi
        have := hf i (by simpa using hi)
        simpa using this
    refine ⟨by omega, h2, ?_, ?_⟩
    · by_cases hm : 32 < ms.length
      · rw [check_many h1 h2 hm] at h; exact absurd h (by decide)
      · omega
    · intro k hk
      cases hm : massOk js.length ms[k] with
      | true => rfl
      | false => rw [check_mass h1 h2 hk hm] at h; exact absurd h (by decide)
/-- The parts of a joint that has no error. -/
theorem err_zero {js : List JointD} {i : Nat} (h : errJ js i = 0) : nameS (bts (js.getD i zeroJ).name) = true ∧ (js.take i).any (fun k => decide (k.name = (js.getD i zeroJ).name)) = false ∧ (0 ≤ (js.getD i zeroJ).kind ∧ (js.getD i zeroJ).kind ≤ 6) ∧
    (-1 ≤ (js.getD i zeroJ).parent ∧ (js.getD i zeroJ).parent < i) ∧ near3 ⟨(js.getD i zeroJ).x, (js.getD i zeroJ).y, (js.getD i zeroJ).z⟩ 4194304 = true ∧
    ((js.getD i zeroJ).lo ≤ (js.getD i zeroJ).hi ∧ -(reachK (js.getD i zeroJ).kind) ≤ (js.getD i zeroJ).lo ∧ (js.getD i zeroJ).hi ≤ reachK (js.getD i zeroJ).kind) ∧ costOk (js.getD i zeroJ) = true := by
  unfold errJ at h
  split at h
  · exact absurd h (by decide)
  split at h
  · exact absurd h (by decide)
  split at h
  · exact absurd h (by decide)
  split at h
  · exact absurd h (by decide)
  split at h
  · exact absurd h (by decide)
  split at h
  · exact absurd h (by decide)
  split at h
  · exact absurd h (by decide)
  rename_i a1 a2 a3 a4 a5 a6 a7
  exact ⟨by simpa using a1, by simpa using a2, by omega, by omega, by simpa using a5, by omega, by simpa using a7⟩
/-- The chain of a link, from the root on. -/
def chainF (js : List JointD) : Nat → Int → List Nat
  | 0, _ => []
  | f + 1, k => if k < 0 then [] else chainF js f (js.getD k.toNat zeroJ).parent ++ [k.toNat]
def chainK (js : List JointD) (k : Int) : List Nat := chainF js js.length k
/-- Parents are earlier joints, or the world. -/
def Tree (js : List JointD) : Prop := ∀ i, i < js.length → -1 ≤ (js.getD i zeroJ).parent ∧ (js.getD i zeroJ).parent < i
theorem chain_fuel {js : List JointD} (ht : Tree js) : ∀ (f g : Nat) (k : Int), k < js.length → k < f → k < g → chainF js f k = chainF js g k := by
  intro f
  induction f with
  | zero =>
    intro g k _ h1 _
    cases g with
    | zero => rfl
    | succ g => rw [chainF, chainF, if_pos (by omega)]
  | succ f ih =>
    intro g k hl h1 h2
    cases g with
    | zero => rw [chainF, chainF, if_pos (by omega)]
    | succ g =>
      rw [chainF, chainF]
      by_cases hk : k < 0
      · rw [if_pos hk, if_pos hk]
      · rw [if_neg hk, if_neg hk]
        have := ht k.toNat (by omega)
        rw [ih g _ (by omega) (by omega) (by omega)]
theorem chain_world (js : List JointD) : chainK js (-1) = [] := by
  unfold chainK
  cases js.length with
  | zero => rfl
  | succ n => rw [chainF, if_pos (by decide)]
theorem chain_step {js : List JointD} (ht : Tree js) {i : Nat} (hi : i < js.length) : chainK js i = chainK js (js.getD i zeroJ).parent ++ [i] := by
  unfold chainK
  have hp := ht i hi
  obtain ⟨n, hn⟩ : ∃ n, js.length = n + 1 := ⟨js.length - 1, by omega⟩
  rw [hn, chainF, if_neg (by omega), Int.toNat_natCast]
  congr 1
  exact chain_fuel ht _ _ _ (by omega) (by omega) (by omega)
theorem chain_range {js : List JointD} (ht : Tree js) : ∀ (n : Nat) (k : Int), k < n → k < js.length → ∀ x ∈ chainK js k, (x : Int) ≤ k := by
  intro n
  induction n with
  | zero =>
    intro k h1 _ x hx
    by_cases hk : k = -1
    · subst hk; rw [chain_world] at hx; cases hx
    · unfold chainK at hx
      cases hl : js.length with
      | zero => rw [hl] at hx; cases hx
      | succ m => rw [hl, chainF, if_pos (by omega)] at hx; cases hx
  | succ n ih =>
    intro k h1 h2 x hx
    by_cases hk : k < n
    · exact ih k hk h2 x hx
    · obtain ⟨i, rfl⟩ : ∃ i : Nat, k = i := ⟨k.toNat, by omega⟩
      rw [chain_step ht (by omega)] at hx
      have hp := ht i (by omega)
      rcases List.mem_append.1 hx with hx | hx
      · have := ih _ (by omega) (by omega) x hx; omega
      · simp at hx; omega
theorem chain_count {js : List JointD} (ht : Tree js) : ∀ (n : Nat) (k : Int), k < n → k < js.length → (chainK js k).length ≤ n := by
  intro n
  induction n with
  | zero =>
    intro k h1 _
    unfold chainK
    cases hl : js.length with
    | zero => simp [chainF]
    | succ m => rw [chainF, if_pos (by omega)]; simp
  | succ n ih =>
    intro k h1 h2
    by_cases hk : k < n
    · have := ih k hk h2; omega
    · obtain ⟨i, rfl⟩ : ∃ i : Nat, k = i := ⟨k.toNat, by omega⟩
      rw [chain_step ht (by omega), List.length_append]
      have hp := ht i (by omega)
      have := ih (js.getD i zeroJ).parent (by omega) (by omega)
      rw [List.length_singleton]
      omega
theorem getD_app (c : List Nat) (k t : Nat) : (c ++ [k]).getD t 0 = if t < c.length then c.getD t 0 else if t = c.length then k else 0 := by
  rw [List.getD_eq_getElem?_getD]
  split
  · rename_i h
    rw [List.getElem?_append_left h, List.getD_eq_getElem?_getD]
  · split
    · rename_i h1 h2
      subst h2
      simp
    · rename_i h1 h2
      rw [List.getElem?_eq_none (by rw [List.length_append, List.length_singleton]; omega)]
      rfl
/-- A chain steps from parent to child. -/
theorem chain_parent {js : List JointD} (ht : Tree js) : ∀ (n i : Nat), i < n → i < js.length → ∃ c, chainK js i = c ++ [i] ∧ (∀ t, t < c.length + 1 → (c ++ [i]).getD t 0 < js.length ∧ (js.getD ((c ++ [i]).getD t 0) zeroJ).parent = if t = 0 then -1 else ((((c ++ [i]).getD (t - 1) 0 : Nat)) : Int)) := by
  intro n
  induction n with
  | zero => intro i h; omega
  | succ n ih =>
    intro i hi hl
    have hp := ht i hl
    refine ⟨chainK js (js.getD i zeroJ).parent, chain_step ht hl, fun t h => ?_⟩
    by_cases hw : (js.getD i zeroJ).parent = -1
    · rw [hw, chain_world] at h ⊢
      have e : t = 0 := by simpa using h
      subst e
      exact ⟨hl, hw⟩
    · obtain ⟨p, hpe⟩ : ∃ p : Nat, (js.getD i zeroJ).parent = p := ⟨(js.getD i zeroJ).parent.toNat, by omega⟩
      obtain ⟨c, hc, hs⟩ := ih p (by omega) (by omega)
      rw [hpe, hc] at h ⊢
      rw [List.length_append, List.length_singleton] at h
      have hl2 : (c ++ [p]).length = c.length + 1 := by rw [List.length_append, List.length_singleton]
      rw [getD_app (c ++ [p]) i t, getD_app (c ++ [p]) i (t - 1), hl2]
      rcases Nat.lt_or_ge t (c.length + 1) with ht2 | ht2
      · rw [if_pos ht2]
        obtain ⟨h1, h2⟩ := hs t ht2
        refine ⟨h1, h2.trans ?_⟩
        by_cases h0 : t = 0
        · rw [if_pos h0, if_pos h0]
        · rw [if_neg h0, if_neg h0, if_pos (by omega)]
      · have e : t = c.length + 1 := by omega
        rw [if_neg (by omega), if_pos e]
        refine ⟨hl, ?_⟩
        rw [if_neg (by omega), if_pos (by omega), hpe, getD_app c p, if_neg (by omega), if_pos (by omega)]
/-- What lies between two links. -/
def betweenK (js : List JointD) (a b : Int) : List Nat := (List.range js.length).filter fun i => decide (i ∈ chainK js a) != decide (i ∈ chainK js b)
theorem between_symm (js : List JointD) (a b : Int) : betweenK js a b = betweenK js b a := by
  unfold betweenK
  congr 1
  funext i
  cases decide (i ∈ chainK js a) <;> cases decide (i ∈ chainK js b) <;> rfl
theorem between_self (js : List JointD) (a : Int) : betweenK js a a = [] := by
  unfold betweenK
  rw [List.filter_eq_nil_iff]
  simp
theorem between_mem {js : List JointD} {a b : Int} {i : Nat} : i ∈ betweenK js a b ↔ i < js.length ∧ (decide (i ∈ chainK js a) != decide (i ∈ chainK js b)) = true := by
  unfold betweenK
  rw [List.mem_filter, List.mem_range]
/-- A joint between two links is between one of them and a third one, and not the other. -/
theorem between_third {js : List JointD} {x y z : Int} {i : Nat} (h : i ∈ betweenK js x y) : (decide (i ∈ betweenK js x z) == decide (i ∈ betweenK js z y)) = false := by
  rw [between_mem] at h
  obtain ⟨h1, h2⟩ := h
  have e1 : decide (i ∈ betweenK js x z) = (decide (i ∈ chainK js x) != decide (i ∈ chainK js z)) := by
    rw [Bool.eq_iff_iff, decide_eq_true_eq, between_mem]; simp [h1]
  have e2 : decide (i ∈ betweenK js z y) = (decide (i ∈ chainK js z) != decide (i ∈ chainK js y)) := by
    rw [Bool.eq_iff_iff, decide_eq_true_eq, between_mem]; simp [h1]
  rw [e1, e2]
  revert h2
  cases decide (i ∈ chainK js x) <;> cases decide (i ∈ chainK js y) <;> cases decide (i ∈ chainK js z) <;> decide
def rigidK (js : List JointD) (a b : Int) : Bool := (betweenK js a b).all fun i => !decide ((js.getD i zeroJ).lo < (js.getD i zeroJ).hi)
theorem rigid_self (js : List JointD) (a : Int) : rigidK js a a = true := by unfold rigidK; rw [between_self]; rfl
end Go.Proofs.YtpaiapcnoifpmaaDoor
namespace Go.Proofs.YtpaiapcnoifpmaaDoor
open Go.RowKit

/-- A slice of structs of this size that reads as these cells, wherever it lies. -/
def RdO (W : World) (v : Value) (n size : Nat) (xs : List Value) : Prop := ∃ (A : Option Addr) (c : Nat), v = .slice A n c ∧ n ≤ c ∧
  ∀ j, j < n * size → ∃ g o, A = some ⟨g, o, none⟩ ∧ g < W.heap.size ∧ W.cell? ⟨g, o + j, none⟩ = xs[j]?
theorem RdO.below {W V : World} {v : Value} {n size : Nat} {xs : List Value} {B : Nat} (h : RdO W v n size xs) (hb : Below B W V) (hB : W.heap.size ≤ B) : RdO V v n size xs := by
  obtain ⟨A, c, hv, hc, hk⟩ := h
  refine ⟨A, c, hv, hc, fun j hj => ?_⟩
  obtain ⟨g, o, hA, hg, h0⟩ := hk j hj
  have hs := hb.size
  exact ⟨g, o, hA, by omega, (hb.cell (p := ⟨g, o + j, none⟩) (by show g < B; omega)).trans h0⟩
theorem RdC.rdO {W : World} {v : Value} {n size : Nat} {xs : List Value} (h : RdC W v n size xs) : RdO W v n size xs := by
  obtain ⟨A, c, hv, hc, hk⟩ := h
  refine ⟨A, c, hv, hc, fun j hj => ?_⟩
  obtain ⟨g, hA, hg, h0⟩ := hk j hj
  exact ⟨g, 0, hA, hg, by rw [Nat.zero_add]; exact h0⟩
theorem RdO.at {α : Type} {W : World} {v : Value} {f : α → List Value} {s : Nat} {l : List α} (h : RdO W v l.length s (l.flatMap f)) (hf : ∀ x, (f x).length = s) (hs : 0 < s) : ∃ (A : Option Addr) (c : Nat), v = .slice A l.length c ∧ l.length ≤ c ∧
    ∀ (k : Nat) (hk : k < l.length), ∃ g o, A = some ⟨g, o, none⟩ ∧ g < W.heap.size ∧ ∀ i, i < s → W.cell? ⟨g, o + k * s + i, none⟩ = (f l[k])[i]? := by
  obtain ⟨A, c, hv, hc, hat⟩ := h
  refine ⟨A, c, hv, hc, fun k hk => ?_⟩
  have hks : k * s + s ≤ l.length * s := by rw [← Nat.succ_mul]; exact Nat.mul_le_mul_right _ hk
  obtain ⟨g, o, hA, hg, _⟩ := hat (k * s) (by omega)
  refine ⟨g, o, hA, hg, fun i hi => ?_⟩
  obtain ⟨g', o', hA', _, h0⟩ := hat (k * s + i) (by omega)
  rw [hA] at hA'
  injection hA' with hA'
  injection hA' with e1 e2 _
  subst e1 e2
  rw [Nat.add_assoc, h0, flat_at f s hf l k i hk hi]
def I64 (x : Int) : Prop := -9223372036854775808 ≤ x ∧ x ≤ 9223372036854775807
structure InJ (j : JointD) : Prop where
  kind : I64 j.kind
  parent : I64 j.parent
  x : I64 j.x
  y : I64 j.y
  z : I64 j.z
  lo : I64 j.lo
  hi : I64 j.hi
  weight : I64 j.weight
  speed : I64 j.speed
  accel : I64 j.accel
  torque : I64 j.torque
structure InM (m : MassD) : Prop where
  link : I64 m.link
  mass : I64 m.mass
  x : I64 m.x
  y : I64 m.y
  z : I64 m.z
/-- A robot that reads so. -/
structure RobD (W : World) (vj vm : Value) (js : List JointD) (ms : List MassD) : Prop where
  rj : RdO W vj js.length 12 (jcells js)
  rm : RdO W vm ms.length 5 (mcells ms)
  lj : js.length ≤ 8796093022208
  lm : ms.length ≤ 8796093022208
  ij : ∀ k (h : k < js.length), InJ js[k]
  im : ∀ k (h : k < ms.length), InM ms[k]
theorem RobD.below {W V : World} {vj vm : Value} {js : List JointD} {ms : List MassD} {B : Nat} (h : RobD W vj vm js ms) (hb : Below B W V) (hB : W.heap.size ≤ B) : RobD V vj vm js ms :=
  ⟨h.rj.below hb hB, h.rm.below hb hB, h.lj, h.lm, h.ij, h.im⟩
theorem RdO.joint {W : World} {v : Value} {js : List JointD} (h : RdO W v js.length 12 (jcells js)) : ∃ (A : Option Addr) (c : Nat), v = .slice A js.length c ∧ js.length ≤ c ∧
    ∀ (k : Nat) (hk : k < js.length), ∃ g o, A = some ⟨g, o, none⟩ ∧ g < W.heap.size ∧ W.cell? ⟨g, o + k * 12, none⟩ = some (.string js[k].name) ∧ W.cell? ⟨g, o + k * 12 + 1, none⟩ = some (.int .i64 js[k].kind) ∧ W.cell? ⟨g, o + k * 12 + 2, none⟩ = some (.int .i64 js[k].parent) ∧
      W.cell? ⟨g, o + k * 12 + 3, none⟩ = some (.int .i64 js[k].x) ∧ W.cell? ⟨g, o + k * 12 + 4, none⟩ = some (.int .i64 js[k].y) ∧ W.cell? ⟨g, o + k * 12 + 5, none⟩ = some (.int .i64 js[k].z) ∧ W.cell? ⟨g, o + k * 12 + 6, none⟩ = some (.int .i64 js[k].lo) ∧
      W.cell? ⟨g, o + k * 12 + 7, none⟩ = some (.int .i64 js[k].hi) ∧ W.cell? ⟨g, o + k * 12 + 8, none⟩ = some (.int .i64 js[k].weight) ∧ W.cell? ⟨g, o + k * 12 + 9, none⟩ = some (.int .i64 js[k].speed) ∧ W.cell? ⟨g, o + k * 12 + 10, none⟩ = some (.int .i64 js[k].accel) ∧
      W.cell? ⟨g, o + k * 12 + 11, none⟩ = some (.int .i64 js[k].torque) := by
  obtain ⟨A, c, hv, hc, hat⟩ := RdO.at h (fun j => by rfl) (by decide)
  refine ⟨A, c, hv, hc, fun k hk => ?_⟩
  obtain ⟨g, o, hA, hg, hi⟩ := hat k hk
  exact ⟨g, o, hA, hg, hi 0 (by decide), hi 1 (by decide), hi 2 (by decide), hi 3 (by decide), hi 4 (by decide), hi 5 (by decide), hi 6 (by decide), hi 7 (by decide), hi 8 (by decide), hi 9 (by decide), hi 10 (by decide), hi 11 (by decide)⟩
theorem RdO.mass {W : World} {v : Value} {ms : List MassD} (h : RdO W v ms.length 5 (mcells ms)) : ∃ (A : Option Addr) (c : Nat), v = .slice A ms.length c ∧ ms.length ≤ c ∧
    ∀ (k : Nat) (hk : k < ms.length), ∃ g o, A = some ⟨g, o, none⟩ ∧ g < W.heap.size ∧ W.cell? ⟨g, o + k * 5, none⟩ = some (.int .i64 ms[k].link) ∧ W.cell? ⟨g, o + k * 5 + 1, none⟩ = some (.int .i64 ms[k].mass) ∧ W.cell? ⟨g, o + k * 5 + 2, none⟩ = some (.int .i64 ms[k].x) ∧
      W.cell? ⟨g, o + k * 5 + 3, none⟩ = some (.int .i64 ms[k].y) ∧ W.cell? ⟨g, o + k * 5 + 4, none⟩ = some (.int .i64 ms[k].z) := by
  obtain ⟨A, c, hv, hc, hat⟩ := RdO.at h (fun j => by rfl) (by decide)
  refine ⟨A, c, hv, hc, fun k hk => ?_⟩
  obtain ⟨g, o, hA, hg, hi⟩ := hat k hk
  exact ⟨g, o, hA, hg, hi 0 (by decide), hi 1 (by decide), hi 2 (by decide), hi 3 (by decide), hi 4 (by decide)⟩
theorem bts_name {i : Nat} (h : i < 3) : bts (nameJ i) = [97 + i] := by
  rcases (show i = 0 ∨ i = 1 ∨ i = 2 by omega) with rfl | rfl | rfl <;> rfl
theorem made_err {js : List JointD} (hl : js.length ≤ 3) (hm : ∀ k (h : k < js.length), MadeJ k js[k]) {i : Nat} (hi : i < js.length) : errJ js i = 0 := by
  have e : js.getD i zeroJ = js[i] := by rw [List.getD_eq_getElem?_getD, List.getElem?_eq_getElem hi]; rfl
  have hf := fine_made (hm i hi)
  have hn := (hm i hi).1
  unfold errJ
  rw [e, if_neg (by rw [hn, (name_good i (by omega)).1]; decide), if_neg, if_neg (by have := hf.k0; have := hf.k6; omega), if_neg (by have := hf.p0; have := hf.p1; omega), if_neg, if_neg (by have := hf.lh; have := hf.l0; have := hf.h1; omega), if_neg]
  · unfold costOk
    rw [hf.we, hf.sp, hf.ac, hf.tq]
    decide
  · have := hf.x
    have := hf.y
    have := hf.z
    simp [near3]
    omega
  · intro ha
    rw [List.any_eq_true] at ha
    obtain ⟨k, hk, hk2⟩ := ha
    obtain ⟨t, ht, rfl⟩ := List.getElem_of_mem hk
    rw [List.length_take] at ht
    have hk3 : js[t].name = js[i].name := by simpa using hk2
    rw [(hm t (by omega)).1, hn] at hk3
    have := congrArg bts hk3
    rw [bts_name (by omega), bts_name (by omega)] at this
    injection this with this
    omega
theorem made_check {W : World} {vj vm : Value} {js : List JointD} {ms : List MassD} (h : RobM W vj vm js ms) : checkR js ms = 0 := by
  have l1 := h.l1
  have l3 := h.l3
  have m2 := h.m2
  refine check_fine (by omega) (fun i hi => made_err l3 h.mj hi) (by omega) (fun k hk => ?_)
  obtain ⟨⟨a1, a2⟩, ⟨b1, b2⟩, ⟨c1, c2⟩, d, ⟨e1, e2⟩⟩ := h.mm k hk
  simp [massOk, near3]
  omega
theorem RobM.robD {W : World} {vj vm : Value} {js : List JointD} {ms : List MassD} (h : RobM W vj vm js ms) : RobD W vj vm js ms := by
  have l3 := h.l3
  have m2 := h.m2
  refine ⟨h.rj.rdO, h.rm.rdO, by omega, by omega, fun k hk => ?_, fun k hk => ?_⟩
  · have hf := fine_made (h.mj k hk)
    have hr := reach_cases js[k].kind
    have a1 := hf.k0
    have a2 := hf.k6
    have a3 := hf.p0
    have a4 := hf.p1
    have a5 := hf.x
    have a6 := hf.y
    have a7 := hf.z
    have a8 := hf.lh
    have a9 := hf.l0
    have b1 := hf.h1
    have b2 := hf.we
    have b3 := hf.sp
    have b4 := hf.ac
    have b5 := hf.tq
    simp at b2 b3 b4 b5
    exact ⟨by unfold I64; omega, by unfold I64; omega, by unfold I64; omega, by unfold I64; omega, by unfold I64; omega, by unfold I64; omega, by unfold I64; omega, by unfold I64; omega, by unfold I64; omega, by unfold I64; omega, by unfold I64; omega⟩
  · obtain ⟨⟨a1, a2⟩, ⟨b1, b2⟩, ⟨c1, c2⟩, d, ⟨e1, e2⟩⟩ := h.mm k hk
    exact ⟨by unfold I64; omega, by unfold I64; omega, by unfold I64; omega, by unfold I64; omega, by unfold I64; omega⟩
theorem tree_of {js : List JointD} (h : ∀ i, i < js.length → errJ js i = 0) : Tree js := fun i hi => (err_zero (h i hi)).2.2.2.1
set_option linter.unusedSimpArgs false in
set_option linter.unusedVariables false in
set_option maxRecDepth 100000 in
set_option maxHeartbeats 6400000 in
theorem mkRobot_any (ao : Option Addr) (n cap : Nat) (w : World) (l : ListAt w ao n) :
    Calls Tryd.prog 9 #[ .slice ao n cap ] w fun e w' => ∃ vj vm js ms, e = .returned (.agg #[vj, vm]) ∧ RobM w' vj vm js ms ∧ Below w.heap.size w w' := by
  have hl := Lib.hid l
  clear l
  have R0 := Lib.hid (show RobAt (w.alloc (.cells #[.slice none 0 0, .slice none 0 0] 25)) w.heap.size (.slice none 0 0) (.slice none 0 0) from RobAt.at_new rfl)
  have B0 := Lib.hid (show Below w.heap.size w (w.alloc (.cells #[.slice none 0 0, .slice none 0 0] 25)) from (Below.refl _ _).alloc (Nat.le_refl _) _)
  go_enter Tryd.func9, Tryd.ntmps9
  go_wp2_with fail
  refine (From_any ao n cap _).mono ?_
  rintro e w1 ⟨rfl, hsa, hb1⟩
  have hsz : (w.alloc (.cells #[.slice none 0 0, .slice none 0 0] 25)).heap.size = w.heap.size + 1 := by simp
  have R1 := Lib.hid (show RobAt w1 w.heap.size (.slice none 0 0) (.slice none 0 0) from (hb1.block _ (by omega)).trans R0.out)
  have B1 := Lib.hid (show Below w.heap.size w w1 from B0.out.trans (hb1.mono (by omega)))
  obtain ⟨b, hbd⟩ : ∃ b, (w.alloc (.cells #[.slice none 0 0, .slice none 0 0] 25)).heap.size = b := ⟨_, rfl⟩
  rw [hbd] at hsa hsz ⊢
  have wb : w.heap.size < b := by omega
  have bl1 : b < w1.heap.size := lt_of_block hsa
  have S1 := Lib.hid (src_mk hl.out B1.out hsa (by omega))
  clear hsa hb1 R0 B0 hbd hl hsz
  go_wp2_with fail
  refine (robot_any w.heap.size b _ S1.out bl1 (by omega)).mono ?_
  rintro e w2 ⟨js, ms, vj, vm, rfl, oj, om, l1, mj, m2, mm, _, hbt⟩
  have hB : Below w.heap.size w w2 := hbt.below B1.out (by omega) B1.out.size
  have hR2 : RobAt w2 w.heap.size (.slice none 0 0) (.slice none 0 0) := (hbt.block _ (by omega) (by omega)).trans R1.out
  have hS2 : w.heap.size < w1.heap.size + 2 := by omega
  have oj2 := (ownsRow_setCell_below (a := ⟨w.heap.size, 1, none⟩) (ownsRow_setCell_below (a := ⟨w.heap.size, 0, none⟩) oj hS2 vj) hS2 vm)
  have om2 := (ownsRow_setCell_below (a := ⟨w.heap.size, 1, none⟩) (ownsRow_setCell_below (a := ⟨w.heap.size, 0, none⟩) om hS2 vj) hS2 vm)
  have HM := Lib.hid (show RobM ((w2.setCell ⟨w.heap.size, 0, none⟩ vj).setCell ⟨w.heap.size, 1, none⟩ vm) vj vm js ms from ⟨rdC_own oj2, rdC_own om2, l1.1, l1.2, m2, mj, mm⟩)
  have HB := Lib.hid (Below.setCell (Below.setCell hB (p := ⟨w.heap.size, 0, none⟩) (Nat.le_refl _) vj) (p := ⟨w.heap.size, 1, none⟩) (Nat.le_refl _) vm)
  obtain ⟨q1, k1, c1, rfl⟩ := own_slc oj
  obtain ⟨q2, k2, c2, rfl⟩ := own_slc om
  have c0 := hR2.c0
  have c1' := hR2.c1
  have f0 := hR2.free 0
  have f1 := hR2.free 1
  have h1 := heap_setCell_same w2 w.heap.size 0 _ _ (.slice q1 k1 c1) hR2
  have h2 := heap_setCell_same _ w.heap.size 1 _ _ (.slice q2 k2 c2) h1
  have d0 := cell_of_row _ _ 0 _ _ _ h2
  have d1 := cell_of_row _ _ 1 _ _ _ h2
  clear oj om oj2 om2 hbt hB hR2 h1 h2
  go_wp2_with fail
  exact bodyPost_ret (v := .agg #[.slice q1 k1 c1, .slice q2 k2 c2]) (by simp [results, Tryd.results9, go_sem, d0, d1]) rfl ⟨_, _, _, _, rfl, HM.out, HB.out⟩
end Go.Proofs.YtpaiapcnoifpmaaDoor
namespace Go.Proofs.YtpaiapcnoifpmaaDoor
open Go.RowKit

set_option linter.unusedSimpArgs false in
set_option linter.unusedVariables false in
set_option maxRecDepth 100000 in
set_option maxHeartbeats 6400000 in
theorem rFind_all (js : List JointD) (ms : List MassD) (vj vm : Value) (b : ByteArray) (w : World) (hr : RobD w vj vm js ms) :
    Calls Tryd.prog 52 #[ .agg #[vj, vm], .string b ] w fun e w' => e = .returned (.int .i64 (findK js b)) ∧ Below w.heap.size w w' := by
  obtain ⟨Am, cm, rfl, hcm, _⟩ := hr.rm.mass
  obtain ⟨Aj, cj, rfl, hcj, _⟩ := hr.rj.joint
  have hB0 := (Below.refl w.heap.size w).alloc (Nat.le_refl _) (.cells #[.slice Aj js.length cj, .slice Am ms.length cm] 25)
  have hD := hr.rj.below hB0 (Nat.le_refl _)
  obtain ⟨_, _, ea, _, hat⟩ := hD.joint
  injection ea with ea _ ec
  subst ea ec
  have lj := hr.lj
  have HAT := Lib.hid hat
  have B0 := Lib.hid hB0
  obtain ⟨r, hrr⟩ : ∃ r, findK js b = r := ⟨_, rfl⟩
  have HR := Lib.hid hrr
  rw [hrr]
  clear hat hB0 hD hr hrr
  go_enter Tryd.func52, Tryd.ntmps52
  go_wp2_with fail
  go_loop [5] (fun i => ∃ k : Nat, k ≤ js.length ∧ i = .int .i64 k ∧ ∀ t (h : t < k) (h2 : t < js.length), js[t].name ≠ b) (fun i => js.length - (intOf i).toNat)
  case atStart => exact ⟨0, Nat.zero_le _, rfl, fun t h => by omega⟩
  case round =>
    obtain ⟨k, hk, rfl, hne⟩ := hrel
    have HNE := Lib.hid hne
    clear hne
    by_cases hlt : k < js.length
    · obtain ⟨g, o, rfl, hg, c0, _⟩ := HAT.out k hlt
      obtain ⟨nm, hnm⟩ : ∃ x, js[k].name = x := ⟨_, rfl⟩
      rw [hnm] at c0
      have HNM := Lib.hid hnm
      clear hnm
      by_cases he : nm = b
      · have hs := same_word he
        have hrk := HR.out.symm.trans (find_at hlt (fun t h => HNE.out t h (by omega)) (HNM.out.trans he))
        subst hrk
        clear he
        go_wp2_with fail
        go_ret
        exact ⟨rfl, B0.out⟩
      · have hs := other_word he
        have HE := Lib.hid he
        clear he
        go_wp2_with fail
        go_round
        case rel => exact ⟨k + 1, by omega, by go_num, fun t h h2 => by rcases Nat.lt_or_ge t k with h3 | h3; exact HNE.out t h3 h2; have e : t = k := (by omega); subst e; rw [HNM.out]; exact HE.out⟩
        case measure => simp [intOf]; omega
    · have hrk := HR.out.symm.trans (find_none (fun t h => HNE.out t (by omega) h))
      subst hrk
      go_wp2_with fail
      go_ret
      exact ⟨rfl, B0.out⟩
set_option linter.unusedSimpArgs false in
set_option linter.unusedVariables false in
set_option maxRecDepth 100000 in
set_option maxHeartbeats 6400000 in
theorem rNear_all (p : PntD) (m : Int) (w : World) (h0 : 0 ≤ m) (h1 : m ≤ 1099511627776) (hx : I64 p.x) (hy : I64 p.y) (hz : I64 p.z) :
    Calls Tryd.prog 37 #[ .agg #[.int .i64 p.x, .int .i64 p.y, .int .i64 p.z], .int .i64 m ] w fun e w' => e = .returned (.bool (near3 p m)) ∧ Below w.heap.size w w' := by
  obtain ⟨x, y, z⟩ := p
  unfold I64 at hx hy hz
  simp only at hx hy hz
  obtain ⟨r, hrr⟩ : ∃ r, near3 ⟨x, y, z⟩ m = r := ⟨_, rfl⟩
  have HR := Lib.hid hrr
  rw [hrr]
  clear hrr
  have B0 := Lib.hid ((Below.refl w.heap.size w).alloc (Nat.le_refl _) (.cells #[.int .i64 x, .int .i64 y, .int .i64 z] 58))
  have bad : ∀ (v : Int), (v = x ∨ v = y ∨ v = z) → (v < -m ∨ m < v) → r = false := by
    intro v hv hb
    rw [← HR.out]
    simp only [near3, decide_eq_false_iff_not]
    rcases hv with rfl | rfl | rfl <;> omega
  have BAD := Lib.hid bad
  clear bad
  go_enter Tryd.func37, Tryd.ntmps37
  go_wp2_with fail
  go_loop [5] (fun i => ∃ k : Nat, k ≤ 3 ∧ i = .int .i64 k ∧ (1 ≤ k → -m ≤ x ∧ x ≤ m) ∧ (2 ≤ k → -m ≤ y ∧ y ≤ m) ∧ (3 ≤ k → -m ≤ z ∧ z ≤ m)) (fun i => 3 - (intOf i).toNat)
  case atStart => exact ⟨0, by omega, rfl, by omega, by omega, by omega⟩
  case round =>
    obtain ⟨k, hk, rfl, q1, q2, q3⟩ := hrel
    by_cases hlt : k < 3
    · rcases (show k = 0 ∨ k = 1 ∨ k = 2 by omega) with rfl | rfl | rfl
      · by_cases a1 : x < -m
        · have := BAD.out x (.inl rfl) (.inl a1); subst this
          clear q1 q2 q3
          go_wp2_with fail
          go_ret
          exact ⟨rfl, B0.out⟩
        · by_cases a2 : m < x
          · have := BAD.out x (.inl rfl) (.inr a2); subst this
            clear q1 q2 q3
            go_wp2_with fail
            go_ret
            exact ⟨rfl, B0.out⟩
          · clear q1 q2 q3
            go_wp2_with fail
            go_round
            case rel => exact ⟨1, by omega, rfl, by omega, by omega, by omega⟩
            case measure => simp [intOf]
      · have q1' := q1 (by omega)
        by_cases a1 : y < -m
        · have := BAD.out y (.inr (.inl rfl)) (.inl a1); subst this
          clear q1 q2 q3
          go_wp2_with fail
          go_ret
          exact ⟨rfl, B0.out⟩
        · by_cases a2 : m < y
          · have := BAD.out y (.inr (.inl rfl)) (.inr a2); subst this
            clear q1 q2 q3
            go_wp2_with fail
            go_ret
            exact ⟨rfl, B0.out⟩
          · clear q1 q2 q3
            go_wp2_with fail
            go_round
            case rel => exact ⟨2, by omega, rfl, fun _ => q1', by omega, by omega⟩
            case measure => simp [intOf]
      · have q1' := q1 (by omega)
        have q2' := q2 (by omega)
        by_cases a1 : z < -m
        · have := BAD.out z (.inr (.inr rfl)) (.inl a1); subst this
          clear q1 q2 q3
          go_wp2_with fail
          go_ret
          exact ⟨rfl, B0.out⟩
        · by_cases a2 : m < z
          · have := BAD.out z (.inr (.inr rfl)) (.inr a2); subst this
            clear q1 q2 q3
            go_wp2_with fail
            go_ret
            exact ⟨rfl, B0.out⟩
          · clear q1 q2 q3
            go_wp2_with fail
            go_round
            case rel => exact ⟨3, by omega, rfl, fun _ => q1', fun _ => q2', by omega⟩
            case measure => simp [intOf]
    · have hrt : r = true := by rw [← HR.out]; simp only [near3, decide_eq_true_eq]; omega
      subst hrt
      clear q1 q2 q3
      go_wp2_with fail
      go_ret
      exact ⟨rfl, B0.out⟩
set_option linter.unusedSimpArgs false in
set_option linter.unusedVariables false in
set_option maxRecDepth 100000 in
set_option maxHeartbeats 6400000 in
theorem rIsLink_all (A : Option Addr) (n c : Nat) (vm : Value) (k : Int) (w : World) (n1 : n ≤ 8796093022208) (hk : I64 k) :
    Calls Tryd.prog 69 #[ .agg #[.slice A n c, vm], .int .i64 k ] w fun e w' => e = .returned (.bool (decide (-1 ≤ k ∧ k < n))) ∧ Below w.heap.size w w' := by
  have B0 := Lib.hid ((Below.refl w.heap.size w).alloc (Nat.le_refl _) (.cells #[.slice A n c, vm] 25))
  unfold I64 at hk
  by_cases h1 : -1 ≤ k
  · by_cases h2 : k < n
    · have hd : decide (-1 ≤ k ∧ k < n) = true := decide_eq_true ⟨h1, h2⟩
      rw [hd]
      clear hd
      go_enter Tryd.func69, Tryd.ntmps69
      go_wp2_with fail
      go_ret
      exact ⟨rfl, B0.out⟩
    · have hd : decide (-1 ≤ k ∧ k < n) = false := decide_eq_false (by omega)
      rw [hd]
      clear hd
      go_enter Tryd.func69, Tryd.ntmps69
      go_wp2_with fail
      go_ret
      exact ⟨rfl, B0.out⟩
  · have hd : decide (-1 ≤ k ∧ k < n) = false := decide_eq_false (by omega)
    rw [hd]
    clear hd
    go_enter Tryd.func69, Tryd.ntmps69
    go_wp2_with fail
    go_ret
    exact ⟨rfl, B0.out⟩
end Go.Proofs.YtpaiapcnoifpmaaDoor
