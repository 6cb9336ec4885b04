/- Proved: a slice of statements that came in, as the walks ask it: it reads as a list, and what its lines take is at most its bulk; the statement SyntaxFormats returns true for statements that read as a list. Conditions: as each theorem states. -/
import Derived.Test.YtnahlpeckfcciaaDoorSy7
import Derived.Test.YtnahlpeckfcciaaDoorRows
import Derived.Deep.Slices
import Derived.Deep.Strs
import Derived.Test.YtnahlpeckfcciaaDoorSy16
namespace Go.Proofs.YtnahlpeckfcciaaDoor
open Go.RowKit Go.Deep

theorem bulk_strs {H : Type} {α : Type} (f : α → ByteArray) (l : List α) : Rows.uptoBulkAll (H := H) (l.map fun i => .lit (.string (f i).data.toList)) = argsLen (l.map f) := by
  induction l with
  | nil => rfl
  | cons x l ih =>
    have e : (f x).data.toList.length = (f x).size := by rw [Array.length_toList]; rfl
    simp only [List.map_cons, Rows.uptoBulkAll, Rows.uptoBulk, argsLen, List.sum_cons, e] at ih ⊢
    omega
theorem bulk_part {H : Type} {d : DataW H} {l : List (DataW H)} (h : d ∈ l) : Rows.uptoBulk d ≤ Rows.uptoBulkAll l := by
  induction l with
  | nil => cases h
  | cons x r ih =>
    simp only [Rows.uptoBulkAll]
    rcases List.mem_cons.1 h with rfl | h
    · omega
    · have := ih h; omega
theorem bulk_pos {H : Type} (d : DataW H) : 1 ≤ Rows.uptoBulk d := by
  cases d with
  | lit l => cases l <;> simp [Rows.uptoBulk]
  | nil => simp [Rows.uptoBulk]
  | ptr d => simp [Rows.uptoBulk]
  | slice a b => simp [Rows.uptoBulk]
  | agg a => simp [Rows.uptoBulk]
  | iface t d => simp [Rows.uptoBulk]
  | map a => simp [Rows.uptoBulk]
  | held h => simp [Rows.uptoBulk]
theorem bulk_len {H : Type} (l : List (DataW H)) : l.length ≤ Rows.uptoBulkAll l := by
  induction l with
  | nil => simp
  | cons x r ih => have := bulk_pos x; simp only [Rows.uptoBulkAll, List.length_cons]; omega
theorem cells_str : Tryd.prog.cellsOf 9 = 1 := by kernel_rfl
theorem cells_st : Tryd.prog.cellsOf 55 = 3 := by kernel_rfl
instance : Inhabited St := ⟨⟨0, ⟨#[]⟩, []⟩⟩
theorem addr_of {W : World} {a : Addr} {v : Value} (h : W.cell? (a.add 0) = some v) : ∃ g o, a = ⟨g, o, none⟩ := by
  obtain ⟨g, o, sp⟩ := a
  have h1 := World.cell?_spot h
  have hs : sp = none := by simpa [Addr.add] using h1
  subst hs
  exact ⟨g, o, rfl⟩
section
variable {H : Type} {enc : TypeId × Value → H} {W : World} {spare : Nat → Bool} {held : Bool}
theorem texts_of {fuel : Nat} {cs : List Value} {x : DataW H × List MemPlace} (h : DataW.trod enc Tryd.prog W 0 spare held fuel 53 cs = some x) (hb : Rows.uptoBulk x.1 ≤ 1048576) :
    ∃ (A : Option Addr) (c : Nat) (xs : List ByteArray), cs = [.slice A xs.length c] ∧ RdT W (.slice A xs.length c) xs ∧ argsLen xs + 1 ≤ Rows.uptoBulk x.1 := by
  rcases open_strs (Tryd.underlying53) (Tryd.underlying9) cells_str h with ⟨rfl, rfl⟩ | ⟨a, len, cap, m, Sx, rfl, _, hl, hm, hmm, rfl, hx⟩
  · exact ⟨none, 0, [], rfl, ⟨none, 0, rfl, by decide, fun k hk => absurd hk (by simp)⟩, by simp [argsLen, Rows.uptoBulk]⟩
  · have hlm : len ≤ m := by rw [hmm]; split <;> omega
    have e := bulk_strs (H := H) Sx (List.range len)
    have hlen := bulk_len (H := H) ((List.range len).map fun i => .lit (.string (Sx i).data.toList))
    simp only [Rows.uptoBulk, List.length_map, List.length_range] at hb hlen ⊢
    refine ⟨some a, cap, (List.range len).map Sx, by simp, ⟨some a, cap, rfl, by simp; omega, fun k hk => ?_⟩, by omega⟩
    have hk2 : k < len := by simpa using hk
    obtain ⟨g, o, rfl⟩ := addr_of (hx 0 (by omega)).1
    have hc := (hx k (by omega)).1
    rw [Go.WideShapes.add_plain] at hc
    refine ⟨g, o, rfl, World.block_lt_of_cell? W _ hc, ?_⟩
    rw [hc]
    simp
set_option maxRecDepth 100000 in
theorem st_of {fuel : Nat} {cs : List Value} {x : DataW H × List MemPlace} (h : DataW.trod enc Tryd.prog W 0 spare held fuel 55 cs = some x) (hb : Rows.uptoBulk x.1 ≤ 1048576) :
    ∃ (s : St) (va : Value), cs = [.int .i64 s.line, .string s.word, va] ∧ RdT W va s.args ∧ lineLen s ≤ Rows.uptoBulk x.1 := by
  obtain ⟨y0, y1, y2, n, rfl, hl, h0, h1, h2⟩ := trod_struct3 (Tryd.underlying55) h
  rw [cells_st] at hl
  match cs, hl with
  | [c0, c1, c2], _ =>
    obtain ⟨z, e0, r0, _⟩ := DataW.trod_int (Tryd.underlying3) h0
    obtain ⟨t, e1, r1, _⟩ := DataW.trod_string (Tryd.underlying9) h1
    subst r0 r1
    simp only [Rows.uptoBulk, Rows.uptoBulkAll] at hb ⊢
    obtain ⟨A, c, xs, e2, hr, hs⟩ := texts_of h2 (by omega)
    have k0 : c0 = .int .i64 z := by simpa [show Tryd.prog.cellsOf 3 = 1 by kernel_rfl] using e0
    have k1 : c1 = .string t := by simpa [cells_str] using e1
    have k2 : c2 = .slice A xs.length c := by simpa [show Tryd.prog.cellsOf 53 = 1 by kernel_rfl] using e2
    subst k0 k1 k2
    have e : t.data.toList.length = t.size := by rw [Array.length_toList]; rfl
    exact ⟨⟨z, t, xs⟩, _, rfl, hr, by simp only [lineLen, e]; omega⟩
theorem fmt_bulk (n : Nat) (S : Nat → St) (D : Nat → DataW H) (h : ∀ i, i < n → lineLen (S i) ≤ Rows.uptoBulk (D i)) : fmtLen ((List.range n).map S) ≤ Rows.uptoBulkAll ((List.range n).map D) := by
  have key : ∀ l : List Nat, (∀ i ∈ l, lineLen (S i) ≤ Rows.uptoBulk (D i)) → fmtLen (l.map S) ≤ Rows.uptoBulkAll (l.map D) := by
    intro l
    induction l with
    | nil => intro _; simp [fmtLen]
    | cons x l ih =>
      intro h
      have h1 := h x (by simp)
      have h2 := ih (fun i hi => h i (by simp [hi]))
      simp only [List.map_cons, fmtLen, List.sum_cons, Rows.uptoBulkAll] at h2 ⊢
      omega
  exact key _ fun i hi => h i (by simpa using hi)
/-- A slice of statements that came in. -/
theorem sts_of {fuel : Nat} {A : Option Addr} {nn c : Nat} {x : DataW H × List MemPlace} (h : DataW.trod enc Tryd.prog W 0 spare held fuel 31 (Value.slice A nn c).cells.toList = some x) (hb : Rows.uptoBulk x.1 ≤ 1048576) :
    ∃ l : List St, RdS W (.slice A nn c) l ∧ fmtLen l ≤ 1048576 := by
  rcases open_slice (Tryd.underlying31) h with ⟨hv, rfl⟩ | ⟨a, len, cap, m, n, D, Pl, hv, _, hl, hm, hmm, rfl, hx⟩
  · simp [Value.cells] at hv
    obtain ⟨rfl, rfl, rfl⟩ := hv
    exact ⟨[], RdS.nil W, by simp [fmtLen]⟩
  · simp [Value.cells] at hv
    obtain ⟨rfl, rfl, rfl⟩ := hv
    have hlm : nn ≤ m := by rw [hmm]; split <;> omega
    rw [cells_st] at hx
    have hlen := bulk_len (H := H) ((List.range nn).map D)
    simp only [Rows.uptoBulk, List.length_map, List.length_range] at hb hlen
    have each : ∀ i, i < nn → ∃ s : St, (∃ g o va, a = ⟨g, o, none⟩ ∧ g < W.heap.size ∧ W.cell? ⟨g, o + i * 3, none⟩ = some (.int .i64 s.line) ∧ W.cell? ⟨g, o + i * 3 + 1, none⟩ = some (.string s.word) ∧ W.cell? ⟨g, o + i * 3 + 2, none⟩ = some va ∧ RdT W va s.args) ∧ lineLen s ≤ Rows.uptoBulk (D i) := by
      intro i hi
      obtain ⟨cs', h1, h2⟩ := hx i (by omega)
      have hbi : Rows.uptoBulk (D i) ≤ Rows.uptoBulkAll ((List.range nn).map D) := bulk_part (List.mem_map.2 ⟨i, List.mem_range.2 hi, rfl⟩)
      obtain ⟨s, va, rfl, hr, hs⟩ := st_of h2 (by show Rows.uptoBulk (D i) ≤ 1048576; omega)
      obtain ⟨_, _, hc⟩ := World.cells?_some h1
      have k0 : W.cell? (a.add (i * 3 + 0)) = some (.int .i64 s.line) := by rw [← add_add]; exact hc 0 (by decide)
      have k1 : W.cell? (a.add (i * 3 + 1)) = some (.string s.word) := by rw [← add_add]; exact hc 1 (by decide)
      have k2 : W.cell? (a.add (i * 3 + 2)) = some va := by rw [← add_add]; exact hc 2 (by decide)
      obtain ⟨cs0, h10, h20⟩ := hx 0 (by omega)
      have hb0 : Rows.uptoBulk (D 0) ≤ Rows.uptoBulkAll ((List.range nn).map D) := bulk_part (List.mem_map.2 ⟨0, List.mem_range.2 (by omega), rfl⟩)
      obtain ⟨s0, va0, rfl, _, _⟩ := st_of h20 (by show Rows.uptoBulk (D 0) ≤ 1048576; omega)
      obtain ⟨_, _, hc0⟩ := World.cells?_some h10
      have k00 : W.cell? (a.add 0) = some (.int .i64 s0.line) := by have := hc0 0 (by decide); rw [add_add] at this; exact this
      obtain ⟨g, o, rfl⟩ := addr_of k00
      rw [Go.WideShapes.add_plain] at k0 k1 k2
      exact ⟨s, ⟨g, o, va, rfl, World.block_lt_of_cell? W _ k0, k0, by rw [← Nat.add_assoc] at k1; exact k1, by rw [← Nat.add_assoc] at k2; exact k2, hr⟩, hs⟩
    obtain ⟨S, hS⟩ := choose_lt each
    have hf := fmt_bulk nn S D (fun i hi => (hS i hi).2)
    refine ⟨(List.range nn).map S, ⟨some a, c, by simp, ⟨by simpa using hl, by simp; omega⟩, fun k hk => ?_⟩, by omega⟩
    have hk2 : k < nn := by simpa using hk
    obtain ⟨⟨g, o, va, rfl, hg, b0, b1, b2, hr⟩, _⟩ := hS k hk2
    refine ⟨g, o, va, rfl, hg, ?_, ?_, b2, ?_⟩
    · rw [b0]; simp
    · rw [b1]; simp
    · simpa using hr
end
end Go.Proofs.YtnahlpeckfcciaaDoor
namespace Go.Proofs.YtnahlpeckfcciaaDoor
open Go.RowKit

theorem eq_text (F : ByteArray) : (F.toList == F.toList) = true := by simp
set_option linter.unusedSimpArgs false in
set_option linter.unusedVariables false in
set_option maxRecDepth 100000 in
set_option maxHeartbeats 6400000 in
theorem SyntaxFormats_any (u : Value) (l : List St) (word : ByteArray) (a2 : Option Addr) (n2 cap2 : Nat) (w : World) (hu : RdS w u l) (hs : fmtLen l ≤ 140737488355328) (l2 : ListAt w a2 n2) :
    Calls Tryd.prog 5 #[ u, .string word, .slice a2 n2 cap2 ] w fun e w' => e = .returned (.bool true) ∧ Below w.heap.size w w' := by
  have HL2 := Lib.hid l2
  have R0 := Lib.hid hu
  have KF1 := Lib.hid (fun (w : World) (h : RdS w u l) => sFormat_any u l w h hs)
  have KF2 := Lib.hid (fun (w : World) (h : RdS w u l) => rFmtS_any u l w h (by omega))
  clear hu hs l2
  obtain ⟨F, hF⟩ : ∃ F, fmtS l = F := ⟨_, rfl⟩
  rw [hF] at KF1 KF2
  clear hF
  go_enter Tryd.func5, Tryd.ntmps5
  go_wp2_with fail
  refine (scene_any a2 n2 cap2 _ HL2.out).mono ?_
  intro e w2 hsc
  obtain ⟨vj, vm, vs, vk, js, ms, ss, ks, rfl, hb, hsm⟩ := scene_made hsc
  have SM := Lib.hid hsm
  have B2 := Lib.hid hb
  clear hb hsm hsc
  go_wp2_with fail
  refine (rWriteScene_any js ms ss ks vj vm vs vk _ SM.out).mono ?_
  rintro e w3 ⟨v3, l3, rfl, r3, hs3, hb⟩
  have B3 := Lib.hid (bl_next hb B2.out)
  have R3 := Lib.hid r3
  have h3z : fmtLen l3 ≤ 140737488355328 := by have := hs3.2.1; omega
  have KG1 := Lib.hid (fun (w : World) (h : RdS w v3 l3) => sFormat_any v3 l3 w h h3z)
  have KG2 := Lib.hid (fun (w : World) (h : RdS w v3 l3) => rFmtS_any v3 l3 w h (by omega))
  obtain ⟨G, hG⟩ : ∃ F, fmtS l3 = F := ⟨_, rfl⟩
  rw [hG] at KG1 KG2
  clear hb r3 hs3 h3z hG
  go_wp2_with fail
  refine (awake7_any _).mono ?_
  rintro e w4 ⟨rfl, hb⟩
  have B4 := Lib.hid (bl_next hb B3.out)
  have R4 := Lib.hid (R3.out.below hb (Nat.le_refl _))
  clear hb R3
  go_wp2_with fail
  refine (KF1.out _ (R0.out.below B4.out (Nat.le_refl _))).mono ?_
  rintro e w5 ⟨rfl, hb⟩
  have B5 := Lib.hid (bl_next hb B4.out)
  have R5 := Lib.hid (R4.out.below hb (Nat.le_refl _))
  clear hb R4
  go_wp2_with fail
  refine (KF2.out _ (R0.out.below B5.out (Nat.le_refl _))).mono ?_
  rintro e w6 ⟨rfl, rfl⟩
  go_wp2_with fail
  refine (sUses_any u l word _ (R0.out.below B5.out (Nat.le_refl _))).mono ?_
  rintro e w6 ⟨x1, rfl, hx1, hb⟩
  have B6 := Lib.hid (bl_next hb B5.out)
  have R6 := Lib.hid (R5.out.below hb (Nat.le_refl _))
  have X1 := Lib.hid hx1
  clear hb hx1 R5
  go_wp2_with fail
  refine (rUses_any u l word _ (R0.out.below B6.out (Nat.le_refl _))).mono ?_
  rintro e w7 ⟨x2, rfl, hx2, hb⟩
  have B7 := Lib.hid (bl_next hb B6.out)
  have R7 := Lib.hid (R6.out.below hb (Nat.le_refl _))
  have Y1 := Lib.hid (X1.out.below hb (Nat.le_refl _))
  have Y2 := Lib.hid hx2
  clear hb hx2 R6 X1
  go_wp2_with fail
  refine (sameI_any _ _ _ _ Y1.out Y2.out).mono ?_
  rintro e w8 ⟨rfl, hb⟩
  have B8 := Lib.hid (bl_next hb B7.out)
  have R8 := Lib.hid (R7.out.below hb (Nat.le_refl _))
  clear hb R7 Y1 Y2
  go_wp2_with fail
  refine (KG1.out _ R8.out).mono ?_
  rintro e w9 ⟨rfl, hb⟩
  have B9 := Lib.hid (bl_next hb B8.out)
  have R9 := Lib.hid (R8.out.below hb (Nat.le_refl _))
  clear hb R8
  go_wp2_with fail
  refine (KG2.out _ R9.out).mono ?_
  rintro e w10 ⟨rfl, rfl⟩
  go_wp2_with fail
  refine (sUses_any v3 l3 ⟨#[115, 104, 97, 112, 101]⟩ _ R9.out).mono ?_
  rintro e w10 ⟨x1, rfl, hx1, hb⟩
  have B10 := Lib.hid (bl_next hb B9.out)
  have R10 := Lib.hid (R9.out.below hb (Nat.le_refl _))
  have X1 := Lib.hid hx1
  clear hb hx1 R9
  go_wp2_with fail
  refine (rUses_any v3 l3 ⟨#[115, 104, 97, 112, 101]⟩ _ R10.out).mono ?_
  rintro e w11 ⟨x2, rfl, hx2, hb⟩
  have B11 := Lib.hid (bl_next hb B10.out)
  have Y1 := Lib.hid (X1.out.below hb (Nat.le_refl _))
  have Y2 := Lib.hid hx2
  clear hb hx2 R10 X1
  go_wp2_with fail
  refine (sameI_any _ _ _ _ Y1.out Y2.out).mono ?_
  rintro e w12 ⟨rfl, hb⟩
  have B12 := Lib.hid (bl_next hb B11.out)
  clear hb
  go_wp2_with fail
  go_ret
  exact ⟨rfl, B12.out⟩
end Go.Proofs.YtnahlpeckfcciaaDoor
