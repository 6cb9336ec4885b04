/- Proved: plain facts on written robots: the reader takes the statements of a valid robot back to that robot. Conditions: as each theorem states. -/
import Derived.Test.YtpaiapcnoifpmaaDoorRb9
namespace Go.Proofs.YtpaiapcnoifpmaaDoor
open Go.RowKit

/-- A joint that Check lets by. -/
structure GoodJ (js : List JointD) (i : Nat) (j : JointD) : Prop where
  nm : nameS (bts j.name) = true
  un : ∀ k (hk : k < js.length), k < i → js[k].name ≠ j.name
  k0 : 0 ≤ j.kind
  k6 : j.kind ≤ 6
  p0 : -1 ≤ j.parent
  p1 : j.parent < i
  num : ∀ u ∈ [j.x, j.y, j.z, j.lo, j.hi], -2147483648 ≤ u ∧ u ≤ 2147483648
  wt : 0 ≤ j.weight ∧ j.weight < 1000000000000000
  int : ∀ u ∈ [j.speed, j.accel, j.torque], 0 ≤ u ∧ u < 1000000000000000
theorem reach_small (k : Int) : 0 ≤ reachK k ∧ reachK k ≤ 4194304 := by
  rcases reach_cases k with h | h | h <;> omega
theorem good_joint8 {js : List JointD} {i : Nat} (hi : i < js.length) (h : errJ js i = 0) : GoodJ js i js[i] := by
  have hg : js.getD i zeroJ = js[i] := by rw [List.getD_eq_getElem?_getD, List.getElem?_eq_getElem hi]; rfl
  unfold errJ at h
  rw [hg] at h
  have hr := reach_small js[i].kind
  split at h
  · exact absurd h (by decide)
  · rename_i h1
    split at h
    · exact absurd h (by decide)
    · rename_i h2
      split at h
      · exact absurd h (by decide)
      · rename_i h3
        split at h
        · exact absurd h (by decide)
        · rename_i h4
          split at h
          · exact absurd h (by decide)
          · rename_i h5
            split at h
            · exact absurd h (by decide)
            · rename_i h6
              split at h
              · exact absurd h (by decide)
              · rename_i h7
                simp [near3] at h5
                simp [costOk] at h7
                refine ⟨by simpa using h1, fun k hk hki he => ?_, by omega, by omega, by omega, by omega, fun u hu => ?_, by omega, fun u hu => ?_⟩
                · apply h2
                  rw [List.any_eq_true]
                  exact ⟨js[k], List.mem_take_iff_getElem.2 ⟨k, by omega, rfl⟩, by simpa using he⟩
                · simp only [List.mem_cons, List.not_mem_nil, or_false] at hu
                  rcases hu with rfl | rfl | rfl | rfl | rfl <;> omega
                · simp only [List.mem_cons, List.not_mem_nil, or_false] at hu
                  rcases hu with rfl | rfl | rfl <;> omega
/-- The two statements of a joint. -/
def WJ (js : List JointD) (j : JointD) (g h : St) : Prop :=
  g.word = ⟨#[106, 111, 105, 110, 116]⟩ ∧ h.word = ⟨#[108, 105, 109, 105, 116]⟩ ∧
  (∃ b0 b1 b2 b3 b4 b : ByteArray, g.args = [j.name, kindB j.kind, linkN js j.parent, b0, b1, b2, b3, b4, b] ∧ (numS (bts b0) = some j.x ∧ numS (bts b1) = some j.y ∧ numS (bts b2) = some j.z ∧ numS (bts b3) = some j.lo ∧ numS (bts b4) = some j.hi) ∧ intS (bts b) = some j.weight) ∧
  ∃ c0 c1 c2 : ByteArray, h.args = [j.name, c0, c1, c2] ∧ intS (bts c0) = some j.speed ∧ intS (bts c1) = some j.accel ∧ intS (bts c2) = some j.torque
/-- The statement of a mass. -/
def WM (js : List JointD) (m : MassD) (g : St) : Prop :=
  g.word = ⟨#[109, 97, 115, 115]⟩ ∧ ∃ b0 b1 b2 b3 : ByteArray, g.args = [(js.getD m.link.toNat zeroJ).name, b0, b1, b2, b3] ∧ numS (bts b0) = some m.mass ∧ numS (bts b1) = some m.x ∧ numS (bts b2) = some m.y ∧ numS (bts b3) = some m.z
theorem kind_back (k : Int) (h0 : 0 ≤ k) (h6 : k ≤ 6) : kindK (kindB k) = k := by
  rcases (show k = 0 ∨ k = 1 ∨ k = 2 ∨ k = 3 ∨ k = 4 ∨ k = 5 ∨ k = 6 by omega) with rfl | rfl | rfl | rfl | rfl | rfl | rfl <;> decide +kernel
theorem word_j : wordK (bts (⟨#[106, 111, 105, 110, 116]⟩ : ByteArray)) = 0 := by decide +kernel
theorem word_l : wordK (bts (⟨#[108, 105, 109, 105, 116]⟩ : ByteArray)) = 1 := by decide +kernel
theorem word_m : wordK (bts (⟨#[109, 97, 115, 115]⟩ : ByteArray)) = 2 := by decide +kernel
theorem name_world : nameS (bts worldB) = false := by decide +kernel
theorem find_part {js : List JointD} (hg : ∀ i (h : i < js.length), GoodJ js i js[i]) {p i : Nat} (hp : p < js.length) (hi : p < i) : findK (js.take i) js[p].name = p := by
  have hl : p < (js.take i).length := by rw [List.length_take]; omega
  refine find_at hl (fun q hq => ?_) (by rw [List.getElem_take])
  rw [List.getElem_take]
  exact (hg p hp).un q (by omega) hq
theorem find_new {js : List JointD} {i : Nat} {j : JointD} (hg : GoodJ js i j) : findK (js.take i) j.name = -1 := by
  refine find_none (fun q hq => ?_)
  rw [List.getElem_take]
  rw [List.length_take] at hq
  exact hg.un q (by omega) (by omega)
theorem read_next {js js' : List JointD} {ms ms' : List MassD} {s : St} (l : List St) (h : stepR js ms s = .ok js' ms') : readR js ms (s :: l) = readR js' ms' l := by
  rw [readR, h]
set_option maxRecDepth 100000 in
theorem read_joint8 {js : List JointD} (hg : ∀ i (h : i < js.length), GoodJ js i js[i]) {i : Nat} (hi : i < js.length) {g h : St} (hw : WJ js js[i] g h) (ms : List MassD) (l : List St) :
    readR (js.take i) ms (g :: h :: l) = readR (js.take (i + 1)) ms l := by
  obtain ⟨w1, w2, ⟨b0, b1, b2, b3, b4, b, ha, ⟨n0, n1, n2, n3, n4⟩, nb⟩, c0, c1, c2, hc, i0, i1, i2⟩ := hw
  have G := hg i hi
  have hli : (js.take i).length = i := by rw [List.length_take]; omega
  have hpar : (linkN js js[i].parent = worldB ∧ js[i].parent = -1) ∨ (linkN js js[i].parent ≠ worldB ∧ findK (js.take i) (linkN js js[i].parent) = js[i].parent ∧ 0 ≤ js[i].parent) := by
    by_cases h1 : js[i].parent = -1
    · left
      exact ⟨by unfold linkN; rw [if_pos h1]; rfl, h1⟩
    · right
      have p0 := G.p0
      have p1 := G.p1
      have hl : linkN js js[i].parent = (js[js[i].parent.toNat]'(by omega)).name := by
        unfold linkN
        rw [if_neg h1, List.getD_eq_getElem?_getD, List.getElem?_eq_getElem (by omega)]
        rfl
      refine ⟨?_, ?_, by omega⟩
      · rw [hl]
        intro e
        have := (hg js[i].parent.toNat (by omega)).nm
        rw [e, name_world] at this
        cases this
      · rw [hl, find_part hg (by omega) (by omega)]
        omega
  have hjn : jerrK (js.take i) g.args = 0 := by
    unfold jerrK
    rw [ha]
    simp only [List.getD_cons_zero, List.getD_cons_succ, List.drop_succ_cons, List.drop_zero, List.take_succ_cons, List.take_zero]
    rw [if_neg (by rw [G.nm, find_new G]; simp), kind_back _ G.k0 G.k6, if_neg (by have := G.k0; omega)]
    rw [if_neg (by rcases hpar with ⟨h1, _⟩ | ⟨_, h2, h3⟩; exact fun h => h.1 h1; rw [h2]; exact fun h => by omega)]
    rw [if_neg (by simp [numOk, outB, n0, n1, n2, n3, n4, nb])]
  have hrj : readJ (js.take i) g.args = { js[i] with speed := 65536, accel := 65536, torque := 65536 } := by
    have hpp : (if linkN js js[i].parent = worldB then (-1 : Int) else findK (js.take i) (linkN js js[i].parent)) = js[i].parent := by
      rcases hpar with ⟨h1, h2⟩ | ⟨h1, h2, _⟩
      · rw [if_pos h1, h2]
      · rw [if_neg h1, h2]
    unfold readJ
    rw [ha]
    simp only [List.getD_cons_zero, List.getD_cons_succ]
    rw [kind_back _ G.k0 G.k6, n0, n1, n2, n3, n4, nb, hpp]
    rfl
  have s1 : stepR (js.take i) ms g = .ok (js.take i ++ [{ js[i] with speed := 65536, accel := 65536, torque := 65536 }]) ms := by
    unfold stepR
    rw [w1, word_j, if_neg (by decide), if_neg (by rw [ha]; simp [argsK]), if_pos rfl, if_pos hjn, hrj]
  have hf2 : findK (js.take i ++ [{ js[i] with speed := 65536, accel := 65536, torque := 65536 }]) js[i].name = i := by
    refine find_at (by rw [List.length_append, hli]; simp) (fun q hq => ?_) ?_
    · rw [List.getElem_append_left (by omega), List.getElem_take]
      exact G.un q (by omega) hq
    · rw [List.getElem_append_right (by omega)]
      simp [hli]
  have s2 : stepR (js.take i ++ [{ js[i] with speed := 65536, accel := 65536, torque := 65536 }]) ms h = .ok (js.take (i + 1)) ms := by
    unfold stepR
    rw [w2, word_l, if_neg (by decide), if_neg (by rw [hc]; simp [argsK]), if_neg (by decide), hc]
    simp only [List.getD_cons_zero, List.getD_cons_succ]
    rw [hf2, if_neg (by omega), if_pos trivial, i0, i1, i2, if_neg (by simp [outB])]
    congr 1
    unfold setL
    rw [Int.toNat_natCast, List.getD_eq_getElem?_getD, List.getElem?_append_right (by omega), hli, Nat.sub_self]
    simp only [outI, Option.getD_some, List.getElem?_cons_zero]
    rw [List.set_append_right _ _ (by omega), hli, Nat.sub_self, List.set_cons_zero, List.take_succ_eq_append_getElem hi]
  rw [read_next _ s1, read_next _ s2]
theorem read_mass8 {js : List JointD} (hg : ∀ i (h : i < js.length), GoodJ js i js[i]) {m : MassD} (h0 : 0 ≤ m.link) (h1 : m.link < js.length) {g : St} (hw : WM js m g) (ms : List MassD) (l : List St) :
    readR js ms (g :: l) = readR js (ms ++ [m]) l := by
  obtain ⟨w1, b0, b1, b2, b3, ha, n0, n1, n2, n3⟩ := hw
  have hl : (js.getD m.link.toNat zeroJ).name = (js[m.link.toNat]'(by omega)).name := by
    rw [List.getD_eq_getElem?_getD, List.getElem?_eq_getElem (by omega)]
    rfl
  have hf : findK js (js.getD m.link.toNat zeroJ).name = m.link := by
    rw [hl]
    have := find_part hg (p := m.link.toNat) (i := js.length) (by omega) (by omega)
    rw [List.take_length] at this
    rw [this]
    omega
  have s1 : stepR js ms g = .ok js (ms ++ [m]) := by
    unfold stepR
    rw [w1, word_m, if_neg (by decide), if_neg (by rw [ha]; simp [argsK]), if_neg (by decide), ha]
    simp only [List.getD_cons_zero, List.getD_cons_succ, List.drop_succ_cons, List.drop_zero]
    rw [hf, if_neg (by omega), if_neg (by decide), if_neg (by simp [numOk, outB, n0, n1, n2, n3]), n0, n1, n2, n3]
    rfl
  rw [read_next _ s1]
/-- What is written for the first i joints and k masses. -/
inductive WrL (js : List JointD) (ms : List MassD) : Nat → Nat → List St → Prop
  | nil : WrL js ms 0 0 []
  | joint {i : Nat} {l : List St} {g h : St} (p : WrL js ms i 0 l) (hi : i < js.length) (w : WJ js js[i] g h) : WrL js ms (i + 1) 0 (l ++ [g, h])
  | mass {k : Nat} {l : List St} {g : St} (p : WrL js ms js.length k l) (hk : k < ms.length) (w : WM js ms[k] g) : WrL js ms js.length (k + 1) (l ++ [g])
def keyS (s : St) : ByteArray × List ByteArray := (s.word, s.args)
theorem key_eq {g h : St} (e : keyS g = keyS h) : g.word = h.word ∧ g.args = h.args := by
  unfold keyS at e
  injection e with e1 e2
  exact ⟨e1, e2⟩
theorem WrL.lines {js : List JointD} {ms : List MassD} {i k : Nat} {l : List St} (h : WrL js ms i k l) : ∀ l', l'.map keyS = l.map keyS → WrL js ms i k l' := by
  induction h with
  | nil =>
    intro l' e
    rw [List.map_nil, List.map_eq_nil_iff] at e
    rw [e]
    exact .nil
  | joint p hi w ih =>
    intro l' e
    rw [List.map_append, List.map_eq_append_iff] at e
    obtain ⟨l1, l2, rfl, e1, e2⟩ := e
    have hl : l2.length = 2 := by simpa using congrArg List.length e2
    match l2, hl, e2 with
    | [g', h'], _, e2 =>
      simp only [List.map_cons, List.map_nil, List.cons.injEq, and_true] at e2
      obtain ⟨g1, g2⟩ := key_eq e2.1
      obtain ⟨h1, h2⟩ := key_eq e2.2
      refine .joint (ih _ e1) hi ?_
      unfold WJ at w ⊢
      rw [g1, g2, h1, h2]
      exact w
  | mass p hk w ih =>
    intro l' e
    rw [List.map_append, List.map_eq_append_iff] at e
    obtain ⟨l1, l2, rfl, e1, e2⟩ := e
    have hl : l2.length = 1 := by simpa using congrArg List.length e2
    match l2, hl, e2 with
    | [g'], _, e2 =>
      simp only [List.map_cons, List.map_nil, List.cons.injEq, and_true] at e2
      obtain ⟨g1, g2⟩ := key_eq e2
      refine .mass (ih _ e1) hk ?_
      unfold WM at w ⊢
      rw [g1, g2]
      exact w
theorem WrL.reads {js : List JointD} {ms : List MassD} (hg : ∀ i (h : i < js.length), GoodJ js i js[i]) (hm : ∀ k (h : k < ms.length), 0 ≤ ms[k].link ∧ ms[k].link < js.length) {i k : Nat} {l : List St} (h : WrL js ms i k l) :
    ∀ rest, readR [] [] (l ++ rest) = readR (js.take i) (ms.take k) rest := by
  induction h with
  | nil => intro rest; rfl
  | joint p hi w ih =>
    intro rest
    rw [List.append_assoc, ih]
    exact read_joint8 hg hi w _ _
  | mass p hk w ih =>
    intro rest
    rw [List.append_assoc, ih, List.take_length, List.take_succ_eq_append_getElem hk]
    exact read_mass8 hg (hm _ hk).1 (hm _ hk).2 w _ _
/-- A valid robot is read back from what is written. -/
theorem read_written {js : List JointD} {ms : List MassD} (hc : checkR js ms = 0) {l : List St} (h : WrL js ms js.length ms.length l) : readR [] [] l = ((js, ms), 0, 0) := by
  obtain ⟨_, h1, _, h2⟩ := check_zero hc
  have hr := h.reads (fun i hi => good_joint8 hi (h1 i hi)) (fun k hk => by have := h2 k hk; simp [massOk] at this; exact this.1) []
  rw [List.append_nil, List.take_length, List.take_length] at hr
  rw [hr, readR, if_pos hc]
end Go.Proofs.YtpaiapcnoifpmaaDoor
