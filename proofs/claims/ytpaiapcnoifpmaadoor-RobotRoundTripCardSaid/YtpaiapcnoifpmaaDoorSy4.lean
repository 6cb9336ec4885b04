/- Proved: rows that a call owns: rows of two types of elements lie in two blocks; the shape of an owned value. Conditions: as each theorem states. · Proved: the reference's Parse returns what parseS in Sy2 computes, in memory of its own, and turns nothing that was there before. Conditions: as each theorem states. · Proved: the reference's FormatStatements and Uses return what fmtS and usesS here compute, and turn nothing that was there. Conditions: as each theorem states. -/
import Derived.WalkKit
import Derived.OwnWalk
import Derived.Test.YtpaiapcnoifpmaaDoorTkR
import Derived.Deep.CutBlock
import Derived.Deep.RegionHeld3
namespace Go.Proofs.YtpaiapcnoifpmaaDoor
open Go.RowKit

/-- Rows of two types of elements lie in two blocks. -/
theorem own_apart {w : World} {base base' : Nat} {e e' : TypeId} {size size' : Nat} {v v' : Value} {n n' : Nat} {xs xs' : List Value} (h : w.ownsRow base e size v n xs) (h' : w.ownsRow base' e' size' v' n' xs') (hne : e ≠ e') : v.ownBlock = none ∨ v.ownBlock ≠ v'.ownBlock := by
  rcases h.2 with ⟨rfl, _⟩ | ⟨g, cap, cur, rfl, _, hg, _⟩
  · exact .inl rfl
  · right
    intro e1
    rcases h'.2 with ⟨rfl, _⟩ | ⟨g', cap', cur', rfl, _, hg', _⟩
    · cases e1
    · injection e1 with e1
      have e2 : g = g' := e1
      subst e2
      rw [hg] at hg'
      injection hg' with h1
      injection h1 with _ h2 _
      exact hne h2
theorem own_form {w : World} {base : Nat} {e : TypeId} {size : Nat} {v : Value} {n : Nat} {xs : List Value} (h : w.ownsRow base e size v n xs) (hn : 0 < n) : ∃ g cap, v = .slice (some ⟨g, 0, none⟩) n cap := by
  rcases h.2 with ⟨_, h0⟩ | ⟨g, cap, cur, rfl, _⟩
  · omega
  · exact ⟨g, cap, rfl⟩
theorem own_one {w : World} {base : Nat} {e : TypeId} {size : Nat} {v : Value} {n : Nat} {xs : List Value} (h : w.ownsRow base e size v n xs) : v.oneCell' = true := by
  rcases h.2 with ⟨rfl, _⟩ | ⟨g, cap, cur, rfl, _⟩ <;> rfl
theorem own_below {w w' : World} {base : Nat} {e : TypeId} {size : Nat} {v : Value} {n : Nat} {xs : List Value} (h : w.ownsRow base e size v n xs) (hB : Below w.heap.size w w') : w'.ownsRow base e size v n xs := by
  obtain ⟨h1, h2⟩ := h
  refine ⟨h1, ?_⟩
  rcases h2 with h2 | ⟨g, cap, cur, a, b, c, d⟩
  · exact .inl h2
  · exact .inr ⟨g, cap, cur, a, b, (hB.block g (Array.getElem?_eq_some_iff.1 c).1).trans c, d⟩
end Go.Proofs.YtpaiapcnoifpmaaDoor
namespace Go.Proofs.YtpaiapcnoifpmaaDoor
open Go.RowKit

def stcell (g : St) (va : Value) : List Value := [.int .i64 g.line, .string g.word, va]
def stcells : List St → List Value → List Value
  | g :: gs, va :: vs => stcell g va ++ stcells gs vs
  | _, _ => []
theorem stcells_snoc {l : List St} {vs : List Value} (h : vs.length = l.length) (g : St) (va : Value) : stcells (l ++ [g]) (vs ++ [va]) = stcells l vs ++ stcell g va := by
  induction l generalizing vs with
  | nil => cases vs with
    | nil => simp [stcells]
    | cons x vs => simp at h
  | cons y l ih => cases vs with
    | nil => simp at h
    | cons x vs => simp only [List.cons_append, stcells]; rw [ih (by simpa using h), List.append_assoc]
theorem stcells_at {l : List St} {vs : List Value} (h : vs.length = l.length) : ∀ (k : Nat) (hk : k < l.length), (stcells l vs)[k * 3]? = some (.int .i64 l[k].line) ∧ (stcells l vs)[k * 3 + 1]? = some (.string l[k].word) ∧ (stcells l vs)[k * 3 + 2]? = some (vs.getD k undef) := by
  induction l generalizing vs with
  | nil => intro k hk; exact absurd hk (by simp)
  | cons y l ih =>
    intro k hk
    cases vs with
    | nil => simp at h
    | cons x vs =>
      match k with
      | 0 => simp [stcells, stcell]
      | k + 1 =>
        have h' := ih (vs := vs) (by simpa using h) k (by simpa using hk)
        have hl : (stcell y x).length = 3 := rfl
        rw [stcells, List.getElem?_append_right (by omega), List.getElem?_append_right (by omega), List.getElem?_append_right (by omega), hl]
        rw [show (k + 1) * 3 - 3 = k * 3 by omega, show (k + 1) * 3 + 1 - 3 = k * 3 + 1 by omega, show (k + 1) * 3 + 2 - 3 = k * 3 + 2 by omega]
        simpa using h'
/-- A slice of texts that the call owns. -/
def OwnT (B : Nat) (W : World) (v : Value) (xs : List ByteArray) : Prop := W.ownsRow B 9 1 v xs.length (xs.map .string)
/-- A slice of statements that the call owns, and their arguments. -/
def OutS (B : Nat) (W : World) (v : Value) (l : List St) (vals : List Value) : Prop := vals.length = l.length ∧ W.ownsRow B 43 3 v l.length (stcells l vals) ∧ ∀ (k : Nat) (h : k < l.length), OwnT B W (vals.getD k undef) l[k].args
theorem OutS.nil (B : Nat) (W : World) : OutS B W (.slice none 0 0) [] [] := ⟨rfl, World.ownsRow_nil _ _ _ _, fun k h => absurd h (by simp)⟩
theorem OwnT.next {B : Nat} {W V : World} {v : Value} {xs : List ByteArray} (h : OwnT B W v xs) (hB : Below W.heap.size W V) : OwnT B V v xs := own_below h hB
theorem OutS.next {B : Nat} {W V : World} {v : Value} {l : List St} {vals : List Value} (h : OutS B W v l vals) (hB : Below W.heap.size W V) : OutS B V v l vals :=
  ⟨h.1, own_below h.2.1 hB, fun k hk => (h.2.2 k hk).next hB⟩
theorem OwnT.rd {B : Nat} {W : World} {v : Value} {xs : List ByteArray} (h : OwnT B W v xs) (hl : xs.length ≤ 8796093022208) : RdT W v xs := by
  have h' : W.ownsRow B 9 1 v xs.length (xs.map .string) := h
  rcases h'.2 with ⟨hv, hn⟩ | ⟨g, cap, cur, hv, hbg, hcur, h1, h2, h3, h4⟩
  · exact ⟨none, 0, by rw [hv, hn], ⟨by omega, hl⟩, fun k hk => by omega⟩
  · refine ⟨some ⟨g, 0, none⟩, cap, hv, ⟨h1, hl⟩, fun k hk => ⟨g, 0, rfl, lt_of_block hcur, ?_⟩⟩
    subst hv
    rw [Nat.zero_add, h'.cellAt k (by omega)]
    simp [hk]
theorem OutS.rd {B : Nat} {W : World} {v : Value} {l : List St} {vals : List Value} (h : OutS B W v l vals) (hl : l.length ≤ 8796093022208) (ha : ∀ g ∈ l, g.args.length ≤ 8796093022208) : RdS W v l := by
  obtain ⟨hvl, hown, hrows⟩ := h
  rcases hown.2 with ⟨hv, hn⟩ | ⟨g, cap, cur, hv, hbg, hcur, h1, h2, h3, h4⟩
  · exact ⟨none, 0, by rw [hv, hn], ⟨by omega, hl⟩, fun k hk => by omega⟩
  · refine ⟨some ⟨g, 0, none⟩, cap, hv, ⟨h1, hl⟩, fun k hk => ?_⟩
    subst hv
    obtain ⟨c0, c1, c2⟩ := stcells_at hvl k hk
    refine ⟨g, 0, vals.getD k undef, rfl, lt_of_block hcur, ?_, ?_, ?_, (hrows k hk).rd (ha _ (List.getElem_mem _))⟩
    · rw [Nat.zero_add, hown.cellAt (k * 3) (by omega), c0]
    · rw [Nat.zero_add, hown.cellAt (k * 3 + 1) (by omega), c1]
    · rw [Nat.zero_add, hown.cellAt (k * 3 + 2) (by omega), c2]
/-- One statement more. -/
theorem OutS.push {B : Nat} {W w1 : World} {v v' va : Value} {l : List St} {vals : List Value} {g : St} {o : Obj} (h : OutS B W v l vals) (hva : OwnT B W va g.args) (hown : w1.ownsRow B 43 3 v' (l.length + 1) (stcells l vals ++ stcell g va)) (hg : (W.alloc o).grownBy w1 v.ownBlock) :
    OutS B w1 v' (l ++ [g]) (vals ++ [va]) := by
  obtain ⟨h1, h2, h3⟩ := h
  refine ⟨by simp [h1], by rw [stcells_snoc h1, List.length_append]; exact hown, fun k hk => ?_⟩
  have kp : ∀ {u : Value} {xs : List ByteArray}, OwnT B W u xs → OwnT B w1 u xs := fun {u xs} hu => by
    have hu' : W.ownsRow B 9 1 u xs.length (xs.map .string) := hu
    exact (hu'.alloc o).kept hg (own_apart hu' h2 (by decide))
  rcases Nat.lt_or_ge k l.length with hlt | hge
  · rw [List.getElem_append_left hlt, List.getD_eq_getElem?_getD, List.getElem?_append_left (by omega), ← List.getD_eq_getElem?_getD]
    exact kp (h3 k hlt)
  · have e : k = l.length := by simp at hk; omega
    subst e
    have : (vals ++ [va]).getD l.length undef = va := by rw [List.getD_eq_getElem?_getD, List.getElem?_append_right (by omega), h1, Nat.sub_self]; rfl
    rw [this]
    simpa using kp hva
/-- What Parse leaves. -/
def PaP (s : ByteArray) (W : World) (e : Ending) (w' : World) : Prop := ∃ v : Value, e = .returned (.tuple #[v, .agg #[.int .i64 (parseS s).err, .int .i64 (parseS s).ln]]) ∧ RdS w' v (parseS s).sts ∧ Below W.heap.size W w'
/-- A statement that is being made: its block, and the texts so far. -/
structure In (wr W : World) (line : Int) (word : ByteArray) (va : Value) (ys : List ByteArray) : Prop where
  blk : W.heap[wr.heap.size]? = some (.cells #[.int .i64 line, .string word, va] 43 (0, 0))
  own : OwnT (wr.heap.size + 1) W va ys
  bel : Below wr.heap.size wr W
section
variable {wr W : World} {line : Int} {word : ByteArray} {va : Value} {ys : List ByteArray}
theorem In.c0 (h : In wr W line word va ys) : W.cell? ⟨wr.heap.size, 0, none⟩ = some (.int .i64 line) := cell_of_row W _ 0 _ _ _ h.blk
theorem In.c1 (h : In wr W line word va ys) : W.cell? ⟨wr.heap.size, 1, none⟩ = some (.string word) := cell_of_row W _ 1 _ _ _ h.blk
theorem In.c2 (h : In wr W line word va ys) : W.cell? ⟨wr.heap.size, 2, none⟩ = some va := cell_of_row W _ 2 _ _ _ h.blk
theorem In.fr (h : In wr W line word va ys) (k : Nat) : W.frozen? ⟨wr.heap.size, k, none⟩ = false := frozen_of_row W _ k _ _ h.blk
theorem In.lt (h : In wr W line word va ys) : wr.heap.size < W.heap.size := lt_of_block h.blk
theorem In.lt1 (h : In wr W line word va ys) : wr.heap.size + 1 ≤ W.heap.size := h.lt
theorem In.drew (h : In wr W line word va ys) : In wr W.drew line word va ys := ⟨h.blk, h.own, h.bel.drew⟩
theorem In.drewN (h : In wr W line word va ys) (n : Nat) : In wr (W.drewN n) line word va ys := ⟨h.blk, h.own, ⟨h.bel.os, h.bel.tape, h.bel.output, h.bel.size, h.bel.block⟩⟩
theorem In.alloc (h : In wr W line word va ys) (o : Obj) : In wr (W.alloc o) line word va ys :=
  ⟨(Below.heap_alloc _ _ _ h.lt).trans h.blk, World.ownsRow.alloc h.own o, h.bel.alloc h.bel.size o⟩
theorem In.pushed (h : In wr W line word va ys) {w1 : World} {v' : Value} {y : ByteArray} (hown : w1.ownsRow (wr.heap.size + 1) 9 1 v' (ys.length + 1) (ys.map .string ++ [.string y])) (hg : W.grownBy w1 va.ownBlock) :
    w1.heap[wr.heap.size]? = some (.cells #[.int .i64 line, .string word, va] 43 (0, 0)) ∧ In wr (w1.setCell ⟨wr.heap.size, 2, none⟩ v') line word v' (ys ++ [y]) := by
  have hr : ∀ k, va.ownBlock = some k → wr.heap.size + 1 ≤ k := fun k hk => (World.ownsRow.lt h.own k hk).1
  have b1 : w1.heap[wr.heap.size]? = some (.cells #[.int .i64 line, .string word, va] 43 (0, 0)) := (hg.block _ h.lt (fun e => by have := hr _ e.symm; omega)).trans h.blk
  refine ⟨b1, heap_setCell_same w1 _ 2 _ _ v' b1, ?_, ?_⟩
  · have := ownsRow_setCell_below (a := ⟨wr.heap.size, 2, none⟩) hown (by show wr.heap.size < wr.heap.size + 1; omega) v'
    unfold OwnT
    rw [List.length_append, List.map_append]
    exact this
  · exact Below.setCell (h.bel.grown hg h.bel.size (fun k hk => by have := hr k hk; omega)) (Nat.le_refl _) _
end
theorem In.start {wr V : World} {line : Int} {word : ByteArray} (hV : Below wr.heap.size wr V) (hb : V.heap[wr.heap.size]? = some (.cells #[.int .i64 line, .string word, .slice none 0 0] 43 (0, 0))) : In wr V line word (.slice none 0 0) [] :=
  ⟨hb, World.ownsRow_nil _ _ _ _, hV⟩
theorem info_str : (Tryd.prog.info? 9).map (fun i => (i.zero, i.size, i.bytes)) = some (some (.string ⟨#[]⟩), 1, 16) := by kernel_rfl
theorem under_strs : Tryd.prog.underlying 41 = some (.slice 9) := by kernel_rfl
theorem info_st : (Tryd.prog.info? 43).map (fun i => (i.zero, i.size, i.bytes)) = some (some (.agg #[.int .i64 0, .string ⟨#[]⟩, .slice none 0 0]), 3, 48) := by kernel_rfl
theorem under_sts : Tryd.prog.underlying 33 = some (.slice 43) := by kernel_rfl
theorem own_len {w : World} {base : Nat} {e : TypeId} {size : Nat} {v : Value} {n : Nat} {xs : List Value} (h : w.ownsRow base e size v n xs) : ∃ q c, v = .slice q n c := by
  rcases h.2 with ⟨rfl, rfl⟩ | ⟨g, cap, cur, rfl, _⟩
  · exact ⟨_, _, rfl⟩
  · exact ⟨_, _, rfl⟩
theorem take_snoc {m : List Tw} {j : Nat} (h : j < m.length) : (m.take (j + 1)).map (·.t) = (m.take j).map (·.t) ++ [m[j].t] := by rw [List.take_succ_eq_append_getElem h, List.map_append]; rfl
theorem own_slc {w : World} {base : Nat} {e : TypeId} {size : Nat} {v : Value} {n : Nat} {xs : List Value} (h : w.ownsRow base e size v n xs) : ∃ q k c, v = .slice q k c := by
  rcases h.2 with ⟨rfl, _⟩ | ⟨g, cap, cur, rfl, _⟩
  · exact ⟨_, _, _, rfl⟩
  · exact ⟨_, _, _, rfl⟩
theorem own_count {w : World} {base : Nat} {e : TypeId} {size : Nat} {q : Option Addr} {k c : Nat} {n : Nat} {xs : List Value} (h : w.ownsRow base e size (.slice q k c) n xs) : k = n := by
  rcases h.2 with ⟨h1, h2⟩ | ⟨g, cap, cur, h1, _⟩
  · injection h1 with _ h3 _; omega
  · injection h1
theorem news1 (W : World) (a : Value) (T : TypeId) : ∀ k u, [a][k]? = some u → (W.alloc (.cells #[a] T)).cell? ((⟨W.heap.size, 0, none⟩ : Addr).add k) = some u := by
  intro k u hu
  match k, hu with
  | 0, hu => simp at hu; subst hu; simp [Addr.add]
  | k + 1, hu => simp at hu
theorem newsS (W : World) (a b c : Value) (T : TypeId) : ∀ k u, [a, b, c][k]? = some u → (W.alloc (.cells #[a, b, c] T)).cell? ((⟨W.heap.size, 0, none⟩ : Addr).add k) = some u := by
  intro k u hu
  match k, hu with
  | 0, hu => simp at hu; subst hu; simp [Addr.add]
  | 1, hu => simp at hu; subst hu; simp [Addr.add]
  | 2, hu => simp at hu; subst hu; simp [Addr.add]
  | k + 3, hu => simp at hu
theorem OutS.set {B : Nat} {W : World} {v : Value} {l : List St} {vals : List Value} (h : OutS B W v l vals) {a : Addr} (ha : a.block < B) (x : Value) : OutS B (W.setCell a x) v l vals :=
  ⟨h.1, ownsRow_setCell_below h.2.1 ha x, fun k hk => ownsRow_setCell_below (h.2.2 k hk) ha x⟩
end Go.Proofs.YtpaiapcnoifpmaaDoor
namespace Go.Proofs.YtpaiapcnoifpmaaDoor
open Go.RowKit

def argB (b a : ByteArray) : ByteArray := b ++ (⟨#[32]⟩ ++ a)
def argK (xs : List ByteArray) (b : ByteArray) (j : Nat) : ByteArray := (xs.take j).foldl argB b
def lineB (b : ByteArray) (g : St) : ByteArray := argK g.args (b ++ g.word) g.args.length ++ ⟨#[10]⟩
def fmtK (l : List St) (k : Nat) : ByteArray := (l.take k).foldl lineB ⟨#[]⟩
/-- The text of statements. -/
def fmtS (l : List St) : ByteArray := fmtK l l.length
def argsLen (xs : List ByteArray) : Nat := (xs.map fun a => 1 + a.size).sum
def lineLen (g : St) : Nat := g.word.size + argsLen g.args + 1
def fmtLen (l : List St) : Nat := (l.map lineLen).sum
theorem argK_succ {xs : List ByteArray} {b : ByteArray} {j : Nat} (h : j < xs.length) : argK xs b (j + 1) = argK xs b j ++ (⟨#[32]⟩ ++ xs[j]) := by
  unfold argK
  rw [List.take_succ_eq_append_getElem h, List.foldl_append]
  rfl
theorem fmtK_succ {l : List St} {k : Nat} (h : k < l.length) : fmtK l (k + 1) = argK l[k].args (fmtK l k ++ l[k].word) l[k].args.length ++ ⟨#[10]⟩ := by
  unfold fmtK
  rw [List.take_succ_eq_append_getElem h, List.foldl_append]
  rfl
theorem argK_size (xs : List ByteArray) (b : ByteArray) (j : Nat) : (argK xs b j).size = b.size + argsLen (xs.take j) := by
  unfold argK
  generalize xs.take j = l
  induction l generalizing b with
  | nil => simp [argsLen]
  | cons a l ih =>
    rw [List.foldl_cons, ih]
    simp only [argB, ByteArray.size_append, argsLen, List.map_cons, List.sum_cons]
    rw [show (⟨#[32]⟩ : ByteArray).size = 1 from rfl]
    omega
theorem argsLen_take (xs : List ByteArray) (j : Nat) : argsLen (xs.take j) ≤ argsLen xs := by
  induction xs generalizing j with
  | nil => simp
  | cons x xs ih =>
    cases j with
    | zero => simp [argsLen]
    | succ j => have := ih j; simp only [argsLen, List.take_succ_cons, List.map_cons, List.sum_cons] at this ⊢; omega
theorem argsLen_step {xs : List ByteArray} {j : Nat} (h : j < xs.length) : argsLen (xs.take j) + 1 + xs[j].size ≤ argsLen xs := by
  have := argsLen_take xs (j + 1)
  rw [List.take_succ_eq_append_getElem h] at this
  simp only [argsLen, List.map_append, List.sum_append, List.map_cons, List.map_nil, List.sum_cons, List.sum_nil] at this ⊢
  omega
theorem fmtK_size (l : List St) (k : Nat) : (fmtK l k).size = fmtLen (l.take k) := by
  unfold fmtK
  have key : ∀ (m : List St) (b : ByteArray), (m.foldl lineB b).size = b.size + fmtLen m := by
    intro m
    induction m with
    | nil => intro b; simp [fmtLen]
    | cons g m ih =>
      intro b
      rw [List.foldl_cons, ih]
      simp only [lineB, ByteArray.size_append, argK_size, List.take_length, fmtLen, List.map_cons, List.sum_cons, lineLen]
      rw [show (⟨#[10]⟩ : ByteArray).size = 1 from rfl]
      omega
  rw [key]
  exact Nat.zero_add _
theorem fmtLen_take (l : List St) (k : Nat) : fmtLen (l.take k) ≤ fmtLen l := by
  induction l generalizing k with
  | nil => simp
  | cons x l ih =>
    cases k with
    | zero => simp [fmtLen]
    | succ k => have := ih k; simp only [fmtLen, List.take_succ_cons, List.map_cons, List.sum_cons] at this ⊢; omega
theorem fmtLen_step {l : List St} {k : Nat} (h : k < l.length) : (fmtK l k).size + lineLen l[k] ≤ fmtLen l := by
  have := fmtLen_take l (k + 1)
  rw [List.take_succ_eq_append_getElem h] at this
  rw [fmtK_size]
  simp only [fmtLen, List.map_append, List.sum_append, List.map_cons, List.map_nil, List.sum_cons, List.sum_nil] at this ⊢
  omega
/-- The places of the statements that begin with a word. -/
def usesS (l : List St) (word : ByteArray) (k : Nat) : List Nat := (List.range k).filter fun i => decide (∃ h : i < l.length, l[i].word = word)
theorem usesS_succ {l : List St} {word : ByteArray} {k : Nat} (h : k < l.length) : usesS l word (k + 1) = usesS l word k ++ if l[k].word = word then [k] else [] := by
  unfold usesS
  rw [List.range_succ, List.filter_append]
  congr 1
  by_cases hw : l[k].word = word <;> simp [h, hw]
theorem usesS_len (l : List St) (word : ByteArray) (k : Nat) : (usesS l word k).length ≤ k := by
  unfold usesS
  exact Nat.le_trans (List.length_filter_le _ _) (by rw [List.length_range]; exact Nat.le_refl _)
/-- A slice of numbers that reads as a list. -/
def RdI (W : World) (v : Value) (xs : List Nat) : Prop := ∃ (A : Option Addr) (c : Nat), v = .slice A xs.length c ∧ xs.length ≤ 8796093022208 ∧
  ∀ (k : Nat) (h : k < xs.length), ∃ g o, A = some ⟨g, o, none⟩ ∧ g < W.heap.size ∧ W.cell? ⟨g, o + k, none⟩ = some (.int .i64 (xs[k] : Nat))
theorem RdI.below {W V : World} {v : Value} {xs : List Nat} {B : Nat} (h : RdI W v xs) (hb : Below B W V) (hB : W.heap.size ≤ B) : RdI V v xs := by
  obtain ⟨A, c, hv, hl, hk⟩ := h
  refine ⟨A, c, hv, hl, fun k hkl => ?_⟩
  obtain ⟨g, o, hA, hg, h0⟩ := hk k hkl
  have hs := hb.size
  exact ⟨g, o, hA, by omega, (hb.cell (p := ⟨g, o + k, none⟩) (by show g < B; omega)).trans h0⟩
def icells (xs : List Nat) : List Value := xs.map fun x : Nat => Value.int .i64 (x : Int)
theorem own_rdI {W : World} {B : Nat} {v : Value} {xs : List Nat} (h : W.ownsRow B 3 1 v xs.length (icells xs)) (hl : xs.length ≤ 8796093022208) : RdI W v xs := by
  rcases h.2 with ⟨hv, hn⟩ | ⟨g, cap, cur, hv, hbg, hcur, h1, h2, h3, h4⟩
  · exact ⟨none, 0, by rw [hv, hn], hl, fun k hk => by omega⟩
  · refine ⟨some ⟨g, 0, none⟩, cap, hv, hl, fun k hk => ⟨g, 0, rfl, lt_of_block hcur, ?_⟩⟩
    subst hv
    rw [Nat.zero_add, h.cellAt k (by omega)]
    simp [icells, hk]
theorem info_int7 : (Tryd.prog.info? 3).map (fun i => (i.zero, i.size, i.bytes)) = some (some (.int .i64 0), 1, 8) := by kernel_rfl
theorem under_ints7 : Tryd.prog.underlying 26 = some (.slice 3) := by kernel_rfl
theorem news_int (W : World) (a : Value) (T : TypeId) : ∀ k u, [a][k]? = some u → (W.alloc (.cells #[a] T)).cell? ((⟨W.heap.size, 0, none⟩ : Addr).add k) = some u := by
  intro k u hu
  match k, hu with
  | 0, hu => simp at hu; subst hu; simp [Addr.add]
  | k + 1, hu => simp at hu
theorem same_word {a b : ByteArray} (h : a = b) : (a.toList == b.toList) = true := by rw [h]; simp
theorem other_word {a b : ByteArray} (h : ¬ a = b) : (a.toList == b.toList) = false := by rw [bts_eq]; exact decide_eq_false fun e => h (bts_inj e)
set_option linter.unusedSimpArgs false in
set_option linter.unusedVariables false in
set_option maxRecDepth 100000 in
set_option maxHeartbeats 3200000 in
theorem sameI_any (u v : Value) (xs : List Nat) (w : World) (hu : RdI w u xs) (hv : RdI w v xs) :
    Calls Tryd.prog 24 #[ u, v ] w fun e w' => e = .returned (.bool true) ∧ Below w.heap.size w w' := by
  obtain ⟨A, c, rfl, hl, hu⟩ := hu
  obtain ⟨A', c', rfl, _, hv⟩ := hv
  have HU := Lib.hid hu
  have HV := Lib.hid hv
  clear hu hv
  go_enter Tryd.func24, Tryd.ntmps24
  go_wp2_with fail
  go_loopw [5] (fun i wr => ∃ k : Nat, k ≤ xs.length ∧ i = .int .i64 k ∧ ∃ q, wr = w.drewN q) (fun i _ => xs.length - (intOf i).toNat)
  case atStart => exact ⟨0, Nat.zero_le _, rfl, 0, rfl⟩
  case round =>
    obtain ⟨k, hk, rfl, q, rfl⟩ := hrel
    by_cases hlt : k < xs.length
    · obtain ⟨g, o, rfl, hg, a0⟩ := HU.out k hlt
      obtain ⟨g', o', rfl, hg', b0⟩ := HV.out k hlt
      go_wp2_with fail
      go_quiet (fail)
      go_wp2_with fail
      go_roundw
      case rel => exact ⟨k + 1, by omega, by go_num, _, by first | rfl | assumption⟩
      case measure => simp [intOf]; omega
    · go_wp2_with fail
      go_ret
      exact ⟨rfl, bl_drewN (Below.refl _ _)⟩
end Go.Proofs.YtpaiapcnoifpmaaDoor
