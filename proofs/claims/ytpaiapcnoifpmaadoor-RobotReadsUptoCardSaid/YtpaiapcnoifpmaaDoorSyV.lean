/- Proved: plain facts for the reference's WriteRobot and WriteScene: statements that are written for a made scene, and rows of texts in memory. Conditions: as each theorem states. -/
import Derived.Test.YtpaiapcnoifpmaaDoorSy19
import Derived.Deep.CutRange
namespace Go.Proofs.YtpaiapcnoifpmaaDoor
open Go.RowKit

/-- A statement that is written. -/
def GoodW (g : St) : Prop := (GoodSt g ∧ WordT g.word) ∧ g.word.size ≤ 5 ∧ g.args.length ≤ 14 ∧ ∀ a ∈ g.args, ArgT a
theorem args_small (xs : List ByteArray) (h : ∀ a ∈ xs, ArgT a) : argsLen xs ≤ 21 * xs.length := by
  induction xs with
  | nil => simp [argsLen]
  | cons x xs ih =>
    have h1 := (h x (by simp)).1.2
    have h2 := ih (fun a ha => h a (by simp [ha]))
    simp only [argsLen, List.map_cons, List.sum_cons, List.length_cons] at h2 ⊢
    omega
theorem fmt_small (l : List St) (h : ∀ g ∈ l, GoodW g) : fmtLen l ≤ 300 * l.length := by
  induction l with
  | nil => simp [fmtLen]
  | cons g l ih =>
    obtain ⟨_, h1, h2, h3⟩ := h g (by simp)
    have h4 := args_small g.args h3
    have h5 := ih (fun a ha => h a (by simp [ha]))
    simp only [fmtLen, List.map_cons, List.sum_cons, List.length_cons, lineLen] at h5 ⊢
    omega
/-- The statements of a made scene. -/
def ScnL (l : List St) : Prop := (1 ≤ l.length ∧ l.length ≤ 15) ∧ fmtLen l ≤ 8000 ∧ ∀ g ∈ l, GoodSt g ∧ WordT g.word ∧ ∀ a ∈ g.args, WordT a
theorem scn_good {l : List St} (hl : 1 ≤ l.length ∧ l.length ≤ 15) (h : ∀ g ∈ l, GoodW g) : ScnL l := by
  have := fmt_small l h
  exact ⟨hl, by omega, fun g hg => ⟨(h g hg).1.1, (h g hg).1.2, fun a ha => ((h g hg).2.2.2 a ha).word⟩⟩
theorem link_arg {js : List JointD} {k : Int} (hk : -1 ≤ k) (hn : k < js.length) (h3 : js.length ≤ 3) (hm : ∀ k (h : k < js.length), MadeJ k js[k]) : ArgT (linkN js k) := by
  unfold linkN
  by_cases h1 : k = -1
  · rw [if_pos h1]
    refine ⟨by decide, ?_⟩
    intro c hc
    have : bts (⟨#[119, 111, 114, 108, 100]⟩ : ByteArray) = [119, 111, 114, 108, 100] := rfl
    rw [this] at hc
    simp at hc
    rcases hc with rfl | rfl | rfl | rfl | rfl <;> decide
  · rw [if_neg h1]
    obtain ⟨i, rfl⟩ : ∃ i : Nat, k = i := ⟨k.toNat, by omega⟩
    have hi : i < js.length := by omega
    rw [Int.toNat_natCast, List.getD_eq_getElem?_getD, List.getElem?_eq_getElem hi]
    show ArgT js[i].name
    rw [(hm i hi).1]
    exact (name_good i (by omega)).2
theorem own_some {B : Nat} {W : World} {v : Value} {bs : List ByteArray} {n : Nat} (h : OwnT B W v bs) (hb : bs.length = n) (hn : 0 < n) : ∃ g c, v = .slice (some ⟨g, 0, none⟩) n c := by
  have h' : W.ownsRow B 9 1 v bs.length (bs.map .string) := h
  rcases h'.2 with ⟨_, h0⟩ | ⟨g, cap, cur, hv, _⟩
  · omega
  · exact ⟨g, cap, by rw [hv, hb]⟩
/-- Numbers that were written out, as 'written' asks them. -/
theorem nums_rd (W : World) (xs : List Int) (cs : Array Value) (hc : cs.toList = xs.map fun x => Value.int .i64 x) (hl : xs.length ≤ 100) :
    RdC (W.alloc (.cells cs 2)) (.slice (some ⟨W.heap.size, 0, none⟩) xs.length xs.length) xs.length 1 ((List.range xs.length).map fun k => .int .i64 (xs.getD k 0)) := by
  have hs : cs.size = xs.length * 1 := by have := congrArg List.length hc; simpa using this
  have h := rdC_own (own_lit W 0 2 cs 1 xs.length hs (Nat.zero_le _) (by unfold maxLen; omega))
  have e : cs.toList = (List.range xs.length).map fun k => Value.int .i64 (xs.getD k 0) := by
    rw [hc]
    apply List.ext_getElem
    · simp
    · intro i h1 h2
      simp at h1
      simp [List.getD_eq_getElem?_getD, h1]
  rw [e] at h
  exact h
/-- .. where the block's number is written anew. -/
theorem nums_of {V W : World} {cs : Array Value} (_h : Below V.heap.size V (W.alloc (.cells cs 2))) (xs : List Int) (n : Nat) (hc : cs.toList = xs.map fun x => Value.int .i64 x) (hl : xs.length = n) (hn : n ≤ 100) :
    ∀ m, W.heap.size = m → RdC (W.alloc (.cells cs 2)) (.slice (some ⟨m, 0, none⟩) n n) n 1 ((List.range n).map fun k => .int .i64 (xs.getD k 0)) := by
  rintro m rfl
  subst hl
  exact nums_rd W xs cs hc hn
theorem nums_ofD {V W : World} {cs : Array Value} (_h : Below V.heap.size V (W.alloc (.cells cs 2)).drew) (xs : List Int) (n : Nat) (hc : cs.toList = xs.map fun x => Value.int .i64 x) (hl : xs.length = n) (hn : n ≤ 100) :
    ∀ m, W.heap.size = m → RdC (W.alloc (.cells cs 2)).drew (.slice (some ⟨m, 0, none⟩) n n) n 1 ((List.range n).map fun k => .int .i64 (xs.getD k 0)) := by
  rintro m rfl
  subst hl
  exact nums_rd W xs cs hc hn
theorem row_of {V W : World} {cs : Array Value} (_h : Below V.heap.size V (W.alloc (.cells cs 9))) (h0 : Below V.heap.size V W) (xs : List ByteArray) (n : Nat) (hc : cs.toList = xs.map .string) (hl : xs.length = n) (hn : n ≤ 100) :
    ∀ m, W.heap.size = m → (W.alloc (.cells cs 9)).ownsRow V.heap.size 9 1 (.slice (some ⟨m, 0, none⟩) n n) n (xs.map .string) := by
  rintro m rfl
  subst hl
  have hs : cs.size = xs.length * 1 := by have := congrArg List.length hc; simpa using this
  have := own_lit W V.heap.size 9 cs 1 xs.length hs h0.size (by unfold maxLen; omega)
  rw [hc] at this
  exact this
theorem nums_in (xs : List Int) (h : ∀ x ∈ xs, -9223372036854775808 ≤ x ∧ x ≤ 9223372036854775807) : ∀ k, -9223372036854775808 ≤ xs.getD k 0 ∧ xs.getD k 0 ≤ 9223372036854775807 := by
  intro k
  rw [List.getD_eq_getElem?_getD]
  cases hk : xs[k]? with
  | none => simp
  | some x => exact h x (List.mem_of_getElem? hk)
theorem OutS.mono {B B' : Nat} {W : World} {v : Value} {l : List St} {vals : List Value} (h : OutS B W v l vals) (hb : B' ≤ B) : OutS B' W v l vals :=
  ⟨h.1, owns_base h.2.1 hb, fun k hk => owns_base (h.2.2 k hk) hb⟩
theorem OwnT.app {B : Nat} {W : World} {v : Value} {xs ys : List ByteArray} {n : Nat} (hn : n = xs.length + ys.length) (h : W.ownsRow B 9 1 v n (xs.map .string ++ ys.map .string)) : OwnT B W v (xs ++ ys) := by
  subst hn
  unfold OwnT
  rw [List.length_append, List.map_append]
  exact h
theorem dec_word {n j : Nat} {b : ByteArray} (h : DecLen n 1 j) (hb : bts b = decD j n) (hn : n ≤ 1000000000000000) : ArgT b := dec_arg h hb hn
theorem mem_app {p : ByteArray → Prop} {xs ys : List ByteArray} (h : ∀ a ∈ xs, p a) (k : ∀ a ∈ ys, p a) : ∀ a ∈ xs ++ ys, p a := fun a ha => (List.mem_append.1 ha).elim (h a) (k a)
theorem mem_snoc {l : List St} {g : St} (h : ∀ x ∈ l, GoodW x) (hg : GoodW g) : ∀ x ∈ l ++ [g], GoodW x := fun x hx => (List.mem_append.1 hx).elim (h x) (fun h1 => by simp at h1; subst h1; exact hg)
theorem goodW_joint {n : Int} {xs : List ByteArray} (hl : xs.length = 9) (ha : ∀ a ∈ xs, ArgT a) : GoodW ⟨n, ⟨#[106, 111, 105, 110, 116]⟩, xs⟩ := ⟨good_joint _ rfl hl, (show (5 : Nat) ≤ 5 by decide), (show xs.length ≤ 14 by omega), ha⟩
theorem goodW_limit {n : Int} {xs : List ByteArray} (hl : xs.length = 4) (ha : ∀ a ∈ xs, ArgT a) : GoodW ⟨n, ⟨#[108, 105, 109, 105, 116]⟩, xs⟩ := ⟨good_limit _ rfl hl, (show (5 : Nat) ≤ 5 by decide), (show xs.length ≤ 14 by omega), ha⟩
theorem goodW_mass {n : Int} {xs : List ByteArray} (hl : xs.length = 5) (ha : ∀ a ∈ xs, ArgT a) : GoodW ⟨n, ⟨#[109, 97, 115, 115]⟩, xs⟩ := ⟨good_mass _ rfl hl, (show (4 : Nat) ≤ 5 by decide), (show xs.length ≤ 14 by omega), ha⟩
theorem goodW_skip {n : Int} {xs : List ByteArray} (hl : xs.length = 2) (ha : ∀ a ∈ xs, ArgT a) : GoodW ⟨n, ⟨#[115, 107, 105, 112]⟩, xs⟩ := ⟨good_skip _ rfl hl, (show (4 : Nat) ≤ 5 by decide), (show xs.length ≤ 14 by omega), ha⟩
theorem goodW_shape {n : Int} {xs : List ByteArray} (k : Nat) (h1 : 1 ≤ k) (h4 : k ≤ 4) (hl : xs.length = 2 + 3 * k) (ha : ∀ a ∈ xs, ArgT a) : GoodW ⟨n, ⟨#[115, 104, 97, 112, 101]⟩, xs⟩ := ⟨good_shape _ rfl k h1 h4 hl, (show (5 : Nat) ≤ 5 by decide), (show xs.length ≤ 14 by omega), ha⟩
end Go.Proofs.YtpaiapcnoifpmaaDoor
