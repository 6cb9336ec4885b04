/- Proved: maps whose keys are texts: what they read, a look-up, an entry that is new. Conditions: as each theorem states. -/
import Derived.Test.YtpaiapcnoifpmaaDoorChecked
import Derived.Test.YtpaiapcnoifpmaaDoorSy4
import Derived.MapKept
import Derived.Deep.Quiet
namespace Go.Proofs.YtpaiapcnoifpmaaDoor
open Go.RowKit

def setObj (w : World) (b : Nat) (o : Obj) : World := { w with heap := w.heap.setIfInBounds b o }
theorem sw_str : Tryd.prog.underlying 9 = some .string := by kernel_rfl
theorem below_setObj {B : Nat} {w W : World} {b : Nat} {o : Obj} (h : Below B w W) (hb : B ≤ b) : Below B w (setObj W b o) := by
  refine ⟨h.os, h.tape, h.output, ?_, ?_⟩
  · simpa [setObj] using h.size
  · intro k hk
    rw [← h.block k hk]
    simp only [setObj]
    rw [Array.getElem?_setIfInBounds_ne (by omega)]
theorem setObj_same {W : World} {b : Nat} {o o' : Obj} (h : W.heap[b]? = some o') : (setObj W b o).heap[b]? = some o := (MapKept.heap_set h).1
theorem setObj_size (W : World) (b : Nat) (o : Obj) : (setObj W b o).heap.size = W.heap.size := by simp [setObj]
/-- A map's entries read as a partial function on texts. -/
def MapIs (es : Array MapEntry) (f : ByteArray → Option Value) : Prop := ∀ b, ∃ r, Instr.findNow .string (.string b) es.toList 0 = some r ∧ r.map (fun x => x.2) = f b
theorem mapIs_nil : MapIs #[] (fun _ => none) := fun _ => ⟨none, rfl, rfl⟩
theorem same_now (a b : ByteArray) : Instr.sameNow .string (.string a) (.string b) = some (a == b) := rfl
theorem find_snoc (b : ByteArray) (e : MapEntry) (key : ByteArray) (hk : e.key = .string key) : ∀ (l : List MapEntry) (i : Nat), (∃ r, Instr.findNow .string (.string b) l i = some r) →
    Instr.findNow .string (.string b) (l ++ [e]) i = (match Instr.findNow .string (.string b) l i with
      | some none => if b = key then some (some (i + l.length, e.val)) else some none
      | x => x) := by
  intro l
  induction l with
  | nil =>
    intro i _
    simp only [List.nil_append, Instr.findNow, hk, same_now, List.length_nil, Nat.add_zero]
    by_cases hb : b = key
    · rw [if_pos hb, (MapKept.bytes_beq b key).2 hb]
    · rw [if_neg hb]
      cases h : (b == key) with
      | true => exact absurd ((MapKept.bytes_beq b key).1 h) hb
      | false => rfl
  | cons x l ih =>
    intro i h
    simp only [List.cons_append, Instr.findNow] at h ⊢
    cases hs : Instr.sameNow .string (.string b) x.key with
    | none => rw [hs] at h
    | some t =>
      cases t with
      | true => rfl
      | false =>
        rw [hs] at h
        simp only at h ⊢
        rw [ih (i + 1) h]
        have e1 : i + 1 + l.length = i + (x :: l).length := by rw [List.length_cons]; omega
        rw [e1]
theorem mapIs_push {es : Array MapEntry} {f : ByteArray → Option Value} (h : MapIs es f) {key : ByteArray} (hk : f key = none) (v : Value) (c : Nat) : MapIs (es.push { key := .string key, val := v, born := c }) (fun b => if b = key then some v else f b) := by
  intro b
  obtain ⟨r, hr, hf⟩ := h b
  have hs := find_snoc b { key := .string key, val := v, born := c } key rfl es.toList 0 ⟨r, hr⟩
  rw [hr] at hs
  rw [Array.toList_push, hs]
  by_cases hb : b = key
  · subst hb
    rw [hk] at hf
    cases r with
    | none => exact ⟨some (0 + es.toList.length, v), by simp only [if_true], by simp only [if_true]; rfl⟩
    | some x => cases hf
  · cases r with
    | none => exact ⟨none, by simp only [if_neg hb], by simp only [if_neg hb]; exact hf⟩
    | some x => exact ⟨_, rfl, by simp only [if_neg hb]; exact hf⟩
/-- A map in memory that reads as a partial function on texts. -/
def MapAt (W : World) (B : Nat) (f : ByteArray → Option Value) : Prop := ∃ es clock, W.heap[B]? = some (.map es clock) ∧ MapIs es f
theorem MapAt.lt {W : World} {B : Nat} {f : ByteArray → Option Value} (h : MapAt W B f) : B < W.heap.size := by
  obtain ⟨es, c, hB, _⟩ := h
  exact lt_of_block hB
theorem MapAt.below {W V : World} {B Q : Nat} {f : ByteArray → Option Value} (h : MapAt W B f) (hb : Below Q W V) (hQ : B < Q) : MapAt V B f := by
  obtain ⟨es, c, hB, hm⟩ := h
  exact ⟨es, c, (hb.block B hQ).trans hB, hm⟩
theorem MapAt.new (W : World) : MapAt (W.alloc (.map #[] 0)) W.heap.size (fun _ => none) := ⟨_, _, heap_alloc_new _ _, mapIs_nil⟩
theorem MapAt.alloc {W : World} {B : Nat} {f : ByteArray → Option Value} (h : MapAt W B f) (o : Obj) : MapAt (W.alloc o) B f := by
  obtain ⟨es, c, hB, hm⟩ := h
  exact ⟨es, c, (Below.heap_alloc _ _ _ (lt_of_block hB)).trans hB, hm⟩
theorem MapAt.drewN {W : World} {B : Nat} {f : ByteArray → Option Value} (h : MapAt W B f) (n : Nat) : MapAt (W.drewN n) B f := h
theorem MapAt.far {W : World} {B q k : Nat} {v : Value} {f : ByteArray → Option Value} (h : MapAt W B f) (hq : B ≠ q) : MapAt (W.setCell ⟨q, k, none⟩ v) B f := by
  obtain ⟨es, c, hB, hm⟩ := h
  exact ⟨es, c, (heap_setCell_other _ _ _ _ hq).trans hB, hm⟩
theorem MapAt.as {W : World} {B : Nat} {f g : ByteArray → Option Value} (h : MapAt W B f) (e : ∀ b, f b = g b) : MapAt W B g := by
  obtain rfl : f = g := funext e
  exact h
theorem map_hit {mt et : TypeId} {W : World} {B : Nat} {f : ByteArray → Option Value} {key : ByteArray} {v : Value} (hm : Tryd.prog.underlying mt = some (.map 9 et)) (h : MapAt W B f) (hf : f key = some v) (ok : Bool) :
    (Instr.lookup mt (.map (some B)) (.string key) ok).run Tryd.prog W = .ok (if ok = true then .tuple #[v, .bool true] else v) W := by
  obtain ⟨es, c, hB, hi⟩ := h
  obtain ⟨r, hr, hrf⟩ := hi key
  rw [hf] at hrf
  cases r with
  | none => cases hrf
  | some x =>
    obtain ⟨i, v'⟩ := x
    have e : v' = v := Option.some.inj hrf
    subst e
    cases ok <;> simp [Instr.lookup, run_underlying hm, MapKept.run_getObj_map hB, MapKept.run_checkKey sw_str (k := .string key) (by trivial), MapKept.run_findKey sw_str hr, Result.andThen]
theorem map_miss {mt et : TypeId} {W : World} {B : Nat} {f : ByteArray → Option Value} {key : ByteArray} {z : Value} (hm : Tryd.prog.underlying mt = some (.map 9 et)) (hz : ∀ w, (zeroValue et).run Tryd.prog w = .ok z w) (h : MapAt W B f) (hf : f key = none) (ok : Bool) :
    (Instr.lookup mt (.map (some B)) (.string key) ok).run Tryd.prog W = .ok (if ok = true then .tuple #[z, .bool false] else z) W := by
  obtain ⟨es, c, hB, hi⟩ := h
  obtain ⟨r, hr, hrf⟩ := hi key
  rw [hf] at hrf
  cases r with
  | some x => cases hrf
  | none => cases ok <;> simp [Instr.lookup, run_underlying hm, MapKept.run_getObj_map hB, MapKept.run_checkKey sw_str (k := .string key) (by trivial), MapKept.run_findKey sw_str hr, Result.andThen, hz]
/-- An entry of a text that the map lacks. -/
theorem map_ins {mt et : TypeId} {W : World} {B : Nat} {f : ByteArray → Option Value} {key : ByteArray} (hm : Tryd.prog.underlying mt = some (.map 9 et)) (h : MapAt W B f) (hf : f key = none) (v : Value) :
    ∃ o, (Instr.mapUpdate mt (.map (some B)) (.string key) v).run Tryd.prog W = .ok () (setObj W B o) ∧ MapAt (setObj W B o) B (fun b => if b = key then some v else f b) := by
  obtain ⟨es, c, hB, hi⟩ := h
  obtain ⟨r, hr, hrf⟩ := hi key
  cases r with
  | some x => rw [hf] at hrf; cases hrf
  | none =>
    refine ⟨.map (es.push { key := .string key, val := v, born := c }) (c + 1), ?_, _, _, setObj_same hB, mapIs_push hi hf v c⟩
    simp [Instr.mapUpdate, run_underlying hm, MapKept.run_getObj_map hB, MapKept.run_checkKey sw_str (k := .string key) (by trivial), MapKept.run_findKey sw_str hr, MapKept.run_setObj_map _ hB, Result.andThen, setObj]
theorem setObj_other {W : World} {b q : Nat} {o : Obj} (h : q ≠ b) : (setObj W b o).heap[q]? = W.heap[q]? := by
  simp only [setObj]
  rw [Array.getElem?_setIfInBounds_ne (Ne.symm h)]
theorem setObj_cell {W : World} {b : Nat} {o : Obj} {p : Addr} (h : p.block ≠ b) : (setObj W b o).cell? p = W.cell? p := by
  unfold World.cell?
  rw [setObj_other h]
end Go.Proofs.YtpaiapcnoifpmaaDoor
