/- Proved: a slice of statements that came in, as the walks ask it: it reads as a list, and what its lines take is at most its bulk. Conditions: as each theorem states. (The same names as in Sy18: import one of both.) -/
import Derived.Test.YtpaiapcnoifpmaaDoorSy4
import Derived.Test.YtpaiapcnoifpmaaDoorRows
import Derived.Deep.Slices
import Derived.Deep.Strs
namespace Go.Proofs.YtpaiapcnoifpmaaDoor
open Go.RowKit Go.Deep

theorem bulk_strs {H : Type} {α : Type} (f : α → ByteArray) (l : List α) : Rows.uptoBulkAll (H := H) (l.map fun i => .lit (.string (f i).data.toList)) = argsLen (l.map f) := by
  induction l with
  | nil => rfl
  | cons x l ih =>
    have e : (f x).data.toList.length = (f x).size := by rw [Array.length_toList]; rfl
    simp only [List.map_cons, Rows.uptoBulkAll, Rows.uptoBulk, argsLen, List.sum_cons, e] at ih ⊢
    omega
theorem bulk_part {H : Type} {d : DataW H} {l : List (DataW H)} (h : d ∈ l) : Rows.uptoBulk d ≤ Rows.uptoBulkAll l := by
  induction l with
  | nil => cases h
  | cons x r ih =>
    simp only [Rows.uptoBulkAll]
    rcases List.mem_cons.1 h with rfl | h
    · omega
    · have := ih h; omega
theorem bulk_pos {H : Type} (d : DataW H) : 1 ≤ Rows.uptoBulk d := by
  cases d with
  | lit l => cases l <;> simp [Rows.uptoBulk]
  | nil => simp [Rows.uptoBulk]
  | ptr d => simp [Rows.uptoBulk]
  | slice a b => simp [Rows.uptoBulk]
  | agg a => simp [Rows.uptoBulk]
  | iface t d => simp [Rows.uptoBulk]
  | map a => simp [Rows.uptoBulk]
  | held h => simp [Rows.uptoBulk]
theorem bulk_len {H : Type} (l : List (DataW H)) : l.length ≤ Rows.uptoBulkAll l := by
  induction l with
  | nil => simp
  | cons x r ih => have := bulk_pos x; simp only [Rows.uptoBulkAll, List.length_cons]; omega
theorem cells_str : Tryd.prog.cellsOf 9 = 1 := by kernel_rfl
theorem cells_st : Tryd.prog.cellsOf 43 = 3 := by kernel_rfl
instance : Inhabited St := ⟨⟨0, ⟨#[]⟩, []⟩⟩
theorem addr_of {W : World} {a : Addr} {v : Value} (h : W.cell? (a.add 0) = some v) : ∃ g o, a = ⟨g, o, none⟩ := by
  obtain ⟨g, o, sp⟩ := a
  have h1 := World.cell?_spot h
  have hs : sp = none := by simpa [Addr.add] using h1
  subst hs
  exact ⟨g, o, rfl⟩
section
variable {H : Type} {enc : TypeId × Value → H} {W : World} {spare : Nat → Bool} {held : Bool}
theorem texts_of {fuel : Nat} {cs : List Value} {x : DataW H × List MemPlace} (h : DataW.trod enc Tryd.prog W 0 spare held fuel 41 cs = some x) (hb : Rows.uptoBulk x.1 ≤ 1048576) :
    ∃ (A : Option Addr) (c : Nat) (xs : List ByteArray), cs = [.slice A xs.length c] ∧ RdT W (.slice A xs.length c) xs ∧ argsLen xs + 1 ≤ Rows.uptoBulk x.1 := by
  rcases open_strs (Tryd.underlying41) (Tryd.underlying9) cells_str h with ⟨rfl, rfl⟩ | ⟨a, len, cap, m, Sx, rfl, _, hl, hm, hmm, rfl, hx⟩
  · exact ⟨none, 0, [], rfl, ⟨none, 0, rfl, by decide, fun k hk => absurd hk (by simp)⟩, by simp [argsLen, Rows.uptoBulk]⟩
  · have hlm : len ≤ m := by rw [hmm]; split <;> omega
    have e := bulk_strs (H := H) Sx (List.range len)
    have hlen := bulk_len (H := H) ((List.range len).map fun i => .lit (.string (Sx i).data.toList))
    simp only [Rows.uptoBulk, List.length_map, List.length_range] at hb hlen ⊢
    refine ⟨some a, cap, (List.range len).map Sx, by simp, ⟨some a, cap, rfl, by simp; omega, fun k hk => ?_⟩, by omega⟩
    have hk2 : k < len := by simpa using hk
    obtain ⟨g, o, rfl⟩ := addr_of (hx 0 (by omega)).1
    have hc := (hx k (by omega)).1
    rw [Go.WideShapes.add_plain] at hc
    refine ⟨g, o, rfl, World.block_lt_of_cell? W _ hc, ?_⟩
    rw [hc]
    simp
set_option maxRecDepth 100000 in
theorem st_of {fuel : Nat} {cs : List Value} {x : DataW H × List MemPlace} (h : DataW.trod enc Tryd.prog W 0 spare held fuel 43 cs = some x) (hb : Rows.uptoBulk x.1 ≤ 1048576) :
    ∃ (s : St) (va : Value), cs = [.int .i64 s.line, .string s.word, va] ∧ RdT W va s.args ∧ lineLen s ≤ Rows.uptoBulk x.1 := by
  obtain ⟨y0, y1, y2, n, rfl, hl, h0, h1, h2⟩ := trod_struct3 (Tryd.underlying43) h
  rw [cells_st] at hl
  match cs, hl with
  | [c0, c1, c2], _ =>
    obtain ⟨z, e0, r0, _⟩ := DataW.trod_int (Tryd.underlying3) h0
    obtain ⟨t, e1, r1, _⟩ := DataW.trod_string (Tryd.underlying9) h1
    subst r0 r1
    simp only [Rows.uptoBulk, Rows.uptoBulkAll] at hb ⊢
    obtain ⟨A, c, xs, e2, hr, hs⟩ := texts_of h2 (by omega)
    have k0 : c0 = .int .i64 z := by simpa [show Tryd.prog.cellsOf 3 = 1 by kernel_rfl] using e0
    have k1 : c1 = .string t := by simpa [cells_str] using e1
    have k2 : c2 = .slice A xs.length c := by simpa [show Tryd.prog.cellsOf 41 = 1 by kernel_rfl] using e2
    subst k0 k1 k2
    have e : t.data.toList.length = t.size := by rw [Array.length_toList]; rfl
    exact ⟨⟨z, t, xs⟩, _, rfl, hr, by simp only [lineLen, e]; omega⟩
theorem fmt_bulk (n : Nat) (S : Nat → St) (D : Nat → DataW H) (h : ∀ i, i < n → lineLen (S i) ≤ Rows.uptoBulk (D i)) : fmtLen ((List.range n).map S) ≤ Rows.uptoBulkAll ((List.range n).map D) := by
  have key : ∀ l : List Nat, (∀ i ∈ l, lineLen (S i) ≤ Rows.uptoBulk (D i)) → fmtLen (l.map S) ≤ Rows.uptoBulkAll (l.map D) := by
    intro l
    induction l with
    | nil => intro _; simp [fmtLen]
    | cons x l ih =>
      intro h
      have h1 := h x (by simp)
      have h2 := ih (fun i hi => h i (by simp [hi]))
      simp only [List.map_cons, fmtLen, List.sum_cons, Rows.uptoBulkAll] at h2 ⊢
      omega
  exact key _ fun i hi => h i (by simpa using hi)
/-- A slice of statements that came in. -/
theorem sts_of {fuel : Nat} {A : Option Addr} {nn c : Nat} {x : DataW H × List MemPlace} (h : DataW.trod enc Tryd.prog W 0 spare held fuel 33 (Value.slice A nn c).cells.toList = some x) (hb : Rows.uptoBulk x.1 ≤ 1048576) :
    ∃ l : List St, RdS W (.slice A nn c) l ∧ fmtLen l ≤ 1048576 := by
  rcases open_slice (Tryd.underlying33) h with ⟨hv, rfl⟩ | ⟨a, len, cap, m, n, D, Pl, hv, _, hl, hm, hmm, rfl, hx⟩
  · simp [Value.cells] at hv
    obtain ⟨rfl, rfl, rfl⟩ := hv
    exact ⟨[], RdS.nil W, by simp [fmtLen]⟩
  · simp [Value.cells] at hv
    obtain ⟨rfl, rfl, rfl⟩ := hv
    have hlm : nn ≤ m := by rw [hmm]; split <;> omega
    rw [cells_st] at hx
    have hlen := bulk_len (H := H) ((List.range nn).map D)
    simp only [Rows.uptoBulk, List.length_map, List.length_range] at hb hlen
    have each : ∀ i, i < nn → ∃ s : St, (∃ g o va, a = ⟨g, o, none⟩ ∧ g < W.heap.size ∧ W.cell? ⟨g, o + i * 3, none⟩ = some (.int .i64 s.line) ∧ W.cell? ⟨g, o + i * 3 + 1, none⟩ = some (.string s.word) ∧ W.cell? ⟨g, o + i * 3 + 2, none⟩ = some va ∧ RdT W va s.args) ∧ lineLen s ≤ Rows.uptoBulk (D i) := by
      intro i hi
      obtain ⟨cs', h1, h2⟩ := hx i (by omega)
      have hbi : Rows.uptoBulk (D i) ≤ Rows.uptoBulkAll ((List.range nn).map D) := bulk_part (List.mem_map.2 ⟨i, List.mem_range.2 hi, rfl⟩)
      obtain ⟨s, va, rfl, hr, hs⟩ := st_of h2 (by show Rows.uptoBulk (D i) ≤ 1048576; omega)
      obtain ⟨_, _, hc⟩ := World.cells?_some h1
      have k0 : W.cell? (a.add (i * 3 + 0)) = some (.int .i64 s.line) := by rw [← add_add]; exact hc 0 (by decide)
      have k1 : W.cell? (a.add (i * 3 + 1)) = some (.string s.word) := by rw [← add_add]; exact hc 1 (by decide)
      have k2 : W.cell? (a.add (i * 3 + 2)) = some va := by rw [← add_add]; exact hc 2 (by decide)
      obtain ⟨cs0, h10, h20⟩ := hx 0 (by omega)
      have hb0 : Rows.uptoBulk (D 0) ≤ Rows.uptoBulkAll ((List.range nn).map D) := bulk_part (List.mem_map.2 ⟨0, List.mem_range.2 (by omega), rfl⟩)
      obtain ⟨s0, va0, rfl, _, _⟩ := st_of h20 (by show Rows.uptoBulk (D 0) ≤ 1048576; omega)
      obtain ⟨_, _, hc0⟩ := World.cells?_some h10
      have k00 : W.cell? (a.add 0) = some (.int .i64 s0.line) := by have := hc0 0 (by decide); rw [add_add] at this; exact this
      obtain ⟨g, o, rfl⟩ := addr_of k00
      rw [Go.WideShapes.add_plain] at k0 k1 k2
      exact ⟨s, ⟨g, o, va, rfl, World.block_lt_of_cell? W _ k0, k0, by rw [← Nat.add_assoc] at k1; exact k1, by rw [← Nat.add_assoc] at k2; exact k2, hr⟩, hs⟩
    obtain ⟨S, hS⟩ := choose_lt each
    have hf := fmt_bulk nn S D (fun i hi => (hS i hi).2)
    refine ⟨(List.range nn).map S, ⟨some a, c, by simp, ⟨by simpa using hl, by simp; omega⟩, fun k hk => ?_⟩, by omega⟩
    have hk2 : k < nn := by simpa using hk
    obtain ⟨⟨g, o, va, rfl, hg, b0, b1, b2, hr⟩, _⟩ := hS k hk2
    refine ⟨g, o, va, rfl, hg, ?_, ?_, b2, ?_⟩
    · rw [b0]; simp
    · rw [b1]; simp
    · simpa using hr
end
end Go.Proofs.YtpaiapcnoifpmaaDoor
