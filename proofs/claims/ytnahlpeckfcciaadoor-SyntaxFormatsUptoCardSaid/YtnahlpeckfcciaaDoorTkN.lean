/- Proved: the developers' Split returns the words that Tk1 names, in memory of its own, and turns nothing that was there before. Conditions: as the theorem states. -/
import Derived.Test.YtnahlpeckfcciaaDoorTkK
import Derived.Test.YtnahlpeckfcciaaDoorTkL
import Derived.Test.YtnahlpeckfcciaaDoorTkM
namespace Go.Proofs.YtnahlpeckfcciaaDoor
open Go.RowKit Go.Shelf
attribute [local go_sem] Oper.semAt_some

/-- What lies where while Split goes over its lines. -/
structure Fx (w W : World) (v : Value) (ln : Int) (t : ByteArray) (lo : Loop) : Prop where
  h0 : Boxed W w.heap.size 92 (.slice none 0 0)
  h1 : ErrAt W (w.heap.size + 1) 0 0
  h2 : Boxed W (w.heap.size + 2) 92 v
  h3 : Boxed W (w.heap.size + 3) 3 (.int .i64 ln)
  h4 : SeqB (w.heap.size + 4) (w.heap.size + 5) (w.heap.size + 6) t W
  h7 : W.heap[w.heap.size + 7]? = some (.deferred (some []))
  h8 : W.heap[w.heap.size + 8]? = some (.loop lo)
  hB : Below w.heap.size w W
theorem Fx.lt {w W : World} {v : Value} {ln : Int} {t : ByteArray} {lo : Loop} (h : Fx w W v ln t lo) : w.heap.size + 8 < W.heap.size := (Array.getElem?_eq_some_iff.1 h.h8).1
/-- .. in a world where all these blocks are as they were. -/
theorem Fx.next {w W W' : World} {v : Value} {ln : Int} {t : ByteArray} {lo : Loop} (h : Fx w W v ln t lo) (hB : Below (w.heap.size + 9) W W') : Fx w W' v ln t lo := by
  have e : ∀ b, b < w.heap.size + 9 → W'.heap[b]? = W.heap[b]? := hB.block
  exact ⟨(e _ (by omega)).trans h.h0, (e _ (by omega)).trans h.h1, (e _ (by omega)).trans h.h2, (e _ (by omega)).trans h.h3, ⟨(e _ (by omega)).trans h.h4.1, (e _ (by omega)).trans h.h4.2.1, (e _ (by omega)).trans h.h4.2.2⟩,
    (e _ (by omega)).trans h.h7, (e _ (by omega)).trans h.h8, h.hB.trans (hB.mono (by omega))⟩
theorem set_other {W : World} {b c : Nat} (v : Value) (h : c ≠ b) : (W.setCell ⟨b, 0, none⟩ v).heap[c]? = W.heap[c]? := Below.heap_setCell _ _ _ _ (fun e => h e)
theorem Fx.line {w W : World} {v : Value} {ln : Int} {t : ByteArray} {lo : Loop} (h : Fx w W v ln t lo) (n : Int) : Fx w (W.setCell ⟨w.heap.size + 3, 0, none⟩ (.int .i64 n)) v n t lo := by
  have e : ∀ b, b ≠ w.heap.size + 3 → (W.setCell ⟨w.heap.size + 3, 0, none⟩ (.int .i64 n)).heap[b]? = W.heap[b]? := fun b hb => set_other _ hb
  exact ⟨(e _ (by omega)).trans h.h0, (e _ (by omega)).trans h.h1, (e _ (by omega)).trans h.h2, h.h3.set _, ⟨(e _ (by omega)).trans h.h4.1, (e _ (by omega)).trans h.h4.2.1, (e _ (by omega)).trans h.h4.2.2⟩,
    (e _ (by omega)).trans h.h7, (e _ (by omega)).trans h.h8, Below.setCell h.hB (by simp) _⟩
theorem Fx.words {w W : World} {v : Value} {ln : Int} {t : ByteArray} {lo : Loop} (h : Fx w W v ln t lo) (u : Value) : Fx w (W.setCell ⟨w.heap.size + 2, 0, none⟩ u) u ln t lo := by
  have e : ∀ b, b ≠ w.heap.size + 2 → (W.setCell ⟨w.heap.size + 2, 0, none⟩ u).heap[b]? = W.heap[b]? := fun b hb => set_other _ hb
  exact ⟨(e _ (by omega)).trans h.h0, (e _ (by omega)).trans h.h1, h.h2.set _, (e _ (by omega)).trans h.h3, ⟨(e _ (by omega)).trans h.h4.1, (e _ (by omega)).trans h.h4.2.1, (e _ (by omega)).trans h.h4.2.2⟩,
    (e _ (by omega)).trans h.h7, (e _ (by omega)).trans h.h8, Below.setCell h.hB (by simp) _⟩
theorem Fx.text {w W : World} {v : Value} {ln : Int} {t : ByteArray} {lo : Loop} (h : Fx w W v ln t lo) (u : ByteArray) : Fx w (W.setCell ⟨w.heap.size + 4, 0, none⟩ (.string u)) v ln u lo := by
  have e : ∀ b, b ≠ w.heap.size + 4 → (W.setCell ⟨w.heap.size + 4, 0, none⟩ (.string u)).heap[b]? = W.heap[b]? := fun b hb => set_other _ hb
  exact ⟨(e _ (by omega)).trans h.h0, (e _ (by omega)).trans h.h1, (e _ (by omega)).trans h.h2, (e _ (by omega)).trans h.h3, ⟨h.h4.1.set _, (e _ (by omega)).trans h.h4.2.1, (e _ (by omega)).trans h.h4.2.2⟩,
    (e _ (by omega)).trans h.h7, (e _ (by omega)).trans h.h8, Below.setCell h.hB (by simp) _⟩
theorem below_put {B : Nat} {w W : World} (h : Below B w W) {b : Nat} (hb : B ≤ b) (hs : B ≤ W.heap.size) (o : Obj) : Below B w (W.putObj b o) := h.grown (grownBy_putObj' W b o) hs (fun k e => by cases e; exact hb)
theorem below_put_drew {B : Nat} {w W : World} (h : Below B w W) {b : Nat} (hb : B ≤ b) (hlt : b < W.heap.size) (o : Obj) : Below B w (W.drew.putObj b o) :=
  below_put (W := W.drew) ⟨h.os, h.tape, h.output, h.size, h.block⟩ hb (Nat.le_trans hb (Nat.le_of_lt hlt)) o
theorem Fx.loop {w W : World} {v : Value} {ln : Int} {t : ByteArray} {lo : Loop} (h : Fx w W v ln t lo) (lo' : Loop) : Fx w (W.putObj (w.heap.size + 8) (.loop lo')) v ln t lo' := by
  have e : ∀ b, b ≠ w.heap.size + 8 → (W.putObj (w.heap.size + 8) (.loop lo')).heap[b]? = W.heap[b]? := fun b hb => World.putObj_heap_other hb
  exact ⟨(e _ (by omega)).trans h.h0, (e _ (by omega)).trans h.h1, (e _ (by omega)).trans h.h2, (e _ (by omega)).trans h.h3, ⟨(e _ (by omega)).trans h.h4.1, (e _ (by omega)).trans h.h4.2.1, (e _ (by omega)).trans h.h4.2.2⟩,
    (e _ (by omega)).trans h.h7, World.putObj_heap_same h.lt, below_put h.hB (by omega) (by have := h.lt; omega) _⟩
theorem own_put {w W : World} {v v' : Value} {ln : Int} {t : ByteArray} {lo : Loop} (h : Fx w W v ln t lo) (lo' : Loop) {n : Nat} {xs : List Value} (hown : W.ownsRow (w.heap.size + 9) 99 3 v' n xs) : (W.putObj (w.heap.size + 8) (.loop lo')).ownsRow (w.heap.size + 9) 99 3 v' n xs :=
  ownsRow_putObj hown _ h.h8 rfl
theorem set_far {W : World} {b o c : Nat} (v : Value) (h : c ≠ b) : (W.setCell ⟨b, o, none⟩ v).heap[c]? = W.heap[c]? := Below.heap_setCell _ _ _ _ (fun e => h e)
/-- The results are stored. -/
theorem Fx.res {w W : World} {v : Value} {ln : Int} {t : ByteArray} {lo : Loop} (h : Fx w W v ln t lo) (u : Value) (x y : Int) :
    Boxed (((W.setCell ⟨w.heap.size, 0, none⟩ u).setCell ⟨w.heap.size + 1, 0, none⟩ (.int .i64 x)).setCell ⟨w.heap.size + 1, 1, none⟩ (.int .i64 y)) w.heap.size 92 u ∧
    ErrAt (((W.setCell ⟨w.heap.size, 0, none⟩ u).setCell ⟨w.heap.size + 1, 0, none⟩ (.int .i64 x)).setCell ⟨w.heap.size + 1, 1, none⟩ (.int .i64 y)) (w.heap.size + 1) x y ∧
    (((W.setCell ⟨w.heap.size, 0, none⟩ u).setCell ⟨w.heap.size + 1, 0, none⟩ (.int .i64 x)).setCell ⟨w.heap.size + 1, 1, none⟩ (.int .i64 y)).heap[w.heap.size + 7]? = some (.deferred (some [])) ∧
    (((W.setCell ⟨w.heap.size, 0, none⟩ u).setCell ⟨w.heap.size + 1, 0, none⟩ (.int .i64 x)).setCell ⟨w.heap.size + 1, 1, none⟩ (.int .i64 y)).heap[w.heap.size + 8]? = some (.loop lo) ∧
    Below w.heap.size w (((W.setCell ⟨w.heap.size, 0, none⟩ u).setCell ⟨w.heap.size + 1, 0, none⟩ (.int .i64 x)).setCell ⟨w.heap.size + 1, 1, none⟩ (.int .i64 y)) := by
  refine ⟨?_, ?_, ?_, ?_, ?_⟩
  · exact ((set_far _ (by omega)).trans (set_far _ (by omega))).trans (h.h0.set u)
  · exact ErrAt.put (e := 0) (l := 0) ((set_far _ (by omega)).trans h.h1) x y
  · exact ((set_far _ (by omega)).trans ((set_far _ (by omega)).trans (set_far _ (by omega)))).trans h.h7
  · exact ((set_far _ (by omega)).trans ((set_far _ (by omega)).trans (set_far _ (by omega)))).trans h.h8
  · exact Below.setCell (Below.setCell (Below.setCell h.hB (Nat.le_refl _) _) (Nat.le_add_right _ _) _) (Nat.le_add_right _ _) _
theorem own_shape {W : World} {base : Nat} {e : TypeId} {size : Nat} {v : Value} {n : Nat} {xs : List Value} (h : W.ownsRow base e size v n xs) : ∃ q k c, v = .slice q k c := by
  rcases h.2 with ⟨rfl, _⟩ | ⟨g, cap, cur, rfl, _⟩
  · exact ⟨_, _, _, rfl⟩
  · exact ⟨_, _, _, rfl⟩
theorem loop_back {lo : Loop} (h1 : lo.state = .ready) (h2 : lo.pending = none) : ({ lo with state := .ready, pending := none } : Loop) = lo := by
  cases lo; simp at h1 h2; subst h1 h2; rfl
theorem addWords_as (s x : ByteArray) (base i m line : Nat) (li : Int) (v0 : Value) (out0 : List Wd) (R : Res) (w : World) (hli : ((line : Nat) : Int) = li) (hx : s.extract i (i + m) = x) (hb : i + m ≤ s.size) (hs : s.size ≤ 16384) (hl : line ≤ 20000) (ho : out0.length ≤ i)
    (hperm : (bts x).all pmL = true) (hend : ∀ c u, (bts s).drop (i + m) = c :: u → wb c = false) (hown : w.ownsRow base 99 3 v0 out0.length (wcells s out0)) (hbase : base ≤ w.heap.size) (hrun : run ((bts s).drop i) i line i false none out0 = R) :
    Calls Tryd.prog 57 #[ v0, .string x, .int .i64 li ] w (AddP s base i m line R w) := by
  rw [← hli]; exact addWords_any s x base i m line v0 out0 R w hx hb hs hl ho hperm hend hown hbase hrun
theorem push_hit {a : Array Obj} {x : Obj} {k : Nat} (h : k = a.size) : (a.push x)[k]? = some x := by subst h; exact Array.getElem?_push_size
theorem push_miss {a : Array Obj} {x : Obj} {k : Nat} (h : k < a.size) : (a.push x)[k]? = a[k]? := by rw [Array.getElem?_push, if_neg (by omega)]
theorem fx_start (s : ByteArray) (w : World) (lo : Loop) :
    Fx w (((seqWorld s ((((w.alloc (.cells #[.slice none 0 0] 92)).alloc (.cells #[.int .i64 0, .int .i64 0] 49)).alloc (.cells #[.slice none 0 0] 92)).alloc (.cells #[.int .i64 0] 3))).alloc (.deferred (some []))).alloc (.loop lo)) (.slice none 0 0) ((0 : Nat) : Int) s lo := by
  obtain ⟨W, hW⟩ : ∃ W, (((seqWorld s ((((w.alloc (.cells #[.slice none 0 0] 92)).alloc (.cells #[.int .i64 0, .int .i64 0] 49)).alloc (.cells #[.slice none 0 0] 92)).alloc (.cells #[.int .i64 0] 3))).alloc (.deferred (some []))).alloc (.loop lo)) = W := ⟨_, rfl⟩
  have hb : Below w.heap.size w W := by
    rw [← hW]
    unfold seqWorld
    repeat (first | exact Below.refl _ _ | refine Below.alloc ?_ (by simp; try omega) _)
  have e : W.heap = ((((((((w.heap.push (.cells #[.slice none 0 0] 92)).push (.cells #[.int .i64 0, .int .i64 0] 49)).push (.cells #[.slice none 0 0] 92)).push (.cells #[.int .i64 0] 3)).push (.cells #[.string s] 9)).push (.cells #[.string ⟨#[10]⟩] 9)).push (.cells #[.int .i64 0] 3)).push (.deferred (some []))).push (.loop lo) := by rw [← hW]; rfl
  rw [hW]
  have h0 : W.heap[w.heap.size]? = some (.cells #[.slice none 0 0] 92) := by rw [e]; exact ((push_miss (by simp only [Array.size_push]; omega)).trans ((push_miss (by simp only [Array.size_push]; omega)).trans ((push_miss (by simp only [Array.size_push]; omega)).trans ((push_miss (by simp only [Array.size_push]; omega)).trans ((push_miss (by simp only [Array.size_push]; omega)).trans ((push_miss (by simp only [Array.size_push]; omega)).trans ((push_miss (by simp only [Array.size_push]; omega)).trans ((push_miss (by simp only [Array.size_push]; omega)).trans (push_hit (by simp))))))))))
  have h1 : W.heap[w.heap.size + 1]? = some (.cells #[.int .i64 0, .int .i64 0] 49) := by rw [e]; exact ((push_miss (by simp only [Array.size_push]; omega)).trans ((push_miss (by simp only [Array.size_push]; omega)).trans ((push_miss (by simp only [Array.size_push]; omega)).trans ((push_miss (by simp only [Array.size_push]; omega)).trans ((push_miss (by simp only [Array.size_push]; omega)).trans ((push_miss (by simp only [Array.size_push]; omega)).trans ((push_miss (by simp only [Array.size_push]; omega)).trans (push_hit (by simp)))))))))
  have h2 : W.heap[w.heap.size + 2]? = some (.cells #[.slice none 0 0] 92) := by rw [e]; exact ((push_miss (by simp only [Array.size_push]; omega)).trans ((push_miss (by simp only [Array.size_push]; omega)).trans ((push_miss (by simp only [Array.size_push]; omega)).trans ((push_miss (by simp only [Array.size_push]; omega)).trans ((push_miss (by simp only [Array.size_push]; omega)).trans ((push_miss (by simp only [Array.size_push]; omega)).trans (push_hit (by simp))))))))
  have h3 : W.heap[w.heap.size + 3]? = some (.cells #[.int .i64 0] 3) := by rw [e]; exact ((push_miss (by simp only [Array.size_push]; omega)).trans ((push_miss (by simp only [Array.size_push]; omega)).trans ((push_miss (by simp only [Array.size_push]; omega)).trans ((push_miss (by simp only [Array.size_push]; omega)).trans ((push_miss (by simp only [Array.size_push]; omega)).trans (push_hit (by simp)))))))
  have h4 : W.heap[w.heap.size + 4]? = some (.cells #[.string s] 9) := by rw [e]; exact ((push_miss (by simp only [Array.size_push]; omega)).trans ((push_miss (by simp only [Array.size_push]; omega)).trans ((push_miss (by simp only [Array.size_push]; omega)).trans ((push_miss (by simp only [Array.size_push]; omega)).trans (push_hit (by simp))))))
  have h5 : W.heap[w.heap.size + 5]? = some (.cells #[.string ⟨#[10]⟩] 9) := by rw [e]; exact ((push_miss (by simp only [Array.size_push]; omega)).trans ((push_miss (by simp only [Array.size_push]; omega)).trans ((push_miss (by simp only [Array.size_push]; omega)).trans (push_hit (by simp)))))
  have h6 : W.heap[w.heap.size + 6]? = some (.cells #[.int .i64 0] 3) := by rw [e]; exact ((push_miss (by simp only [Array.size_push]; omega)).trans ((push_miss (by simp only [Array.size_push]; omega)).trans (push_hit (by simp))))
  have h7 : W.heap[w.heap.size + 7]? = some (.deferred (some [])) := by rw [e]; exact ((push_miss (by simp only [Array.size_push]; omega)).trans (push_hit (by simp)))
  have h8 : W.heap[w.heap.size + 8]? = some (.loop lo) := by rw [e]; exact (push_hit (by simp))
  exact ⟨h0, h1, h2, h3, ⟨h4, h5, h6⟩, h7, h8, hb⟩
/-- A range over a function at the wide fence: the iterator's call, in a world with the loop's record, of which its parts alone are known. -/
theorem range_wide {P : Program} {g : Operand} {ps : Array Tmp} {assign body : Code} {Q : Exit → Act → World → Prop} {a : Act} {w : World} {n gf : Nat} {lb : Array Value} (hg : a.eval g = .func (.func gf) #[] lb) (eg : ∀ args w, (callFunc gf args).run P w = .ok (.enter gf args) w)
    (h : ∀ lo : Loop, lo.state = .ready → lo.pending = none → lo.params = ps → lo.assign = assign → lo.body = body → lo.tmps = a.tmps →
      CallsIn Fence.wide (n - 1) P gf (#[.func (.yield (w.heap.size + 1)) #[] #[]] ++ lb) ((w.alloc (.deferred (some []))).alloc (.loop lo))
        (rangePost Fence.wide n P (w.heap.size + 1) Q { a with defers := [{ target := .collected w.heap.size, args := #[] }] ++ a.defers })) :
    (Code.rangeFunc g ps assign body).wpIn Fence.wide n P Q a w := by
  refine wpIn_rangeFunc ?_
  intro fn _
  obtain ⟨W1, hW1⟩ : ∃ W1, (w.alloc (.deferred (some []))).alloc (.loop { state := .ready, pending := none, fn, tmps := a.tmps, params := ps, assign, body, defers := w.heap.size }) = W1 := ⟨_, rfl⟩
  have h2 := h { state := .ready, pending := none, fn, tmps := a.tmps, params := ps, assign, body, defers := w.heap.size } rfl rfl rfl rfl rfl rfl
  rw [hW1] at h2
  refine ⟨w.heap.size + 1, [{ target := .collected w.heap.size, args := #[] }], W1, { target := .fn (.func gf) lb, args := #[.func (.yield (w.heap.size + 1)) #[] #[]] }, W1, gf, #[.func (.yield (w.heap.size + 1)) #[] #[]] ++ lb, W1, ?_, ?_, ?_, ?_, ?_, ?_⟩
  · rw [← hW1]; exact run_enterLoop_outer _ _ _ _ _
  · simp only [resolve, hg]
    simp [go_sem]
  · intro f' hf'; trivial
  · simp [invoke, go_sem, eg]
  · intro h; cases h
  · exact h2
/-- One round at the wide fence. -/
theorem round_wide {P : Program} {l m p : Nat} {lo : Loop} {x : Value} {W : World} {R : Ending → World → Prop} {assign body : Code} {tm : Array Value} (hl : W.heap[l]? = some (.loop lo)) (hp : lo.params = #[p]) (ha : lo.assign = assign) (hb : lo.body = body) (ht : lo.tmps = tm)
    (h : assign.wpIn (Fence.wide.inRound l) m P (Exit.then (fun a₁ w₁ => ∃ w₂, (Instr.beginRound l).run P w₁ = .ok () w₂ ∧ body.wpIn (Fence.wide.inRound l) m P (roundPost P l R) a₁ w₂) (fun _ _ _ => False))
      { tmps := tm.setIfInBounds p x, defers := [] } W) : YieldAt Fence.wide m P l #[x] W R := by
  have hy := run_yield (P := P) (args := #[x]) hl (by rw [hp]; rfl)
  rw [hp, ha, hb, ht] at hy
  have e : ((#[p] : Array Tmp).zip #[x]).foldl (fun tmps (q : Tmp × Value) => tmps.setIfInBounds q.1 q.2) tm = tm.setIfInBounds p x := by simp
  rw [show (((#[p] : Array Tmp).zip #[x]).foldl (fun tmps (t, a) => tmps.setIfInBounds t a) tm) = tm.setIfInBounds p x from e] at hy
  exact ⟨lo.fn, _, assign, body, hy, roundIn_of_wpIn trivial h⟩
set_option linter.unusedSimpArgs false in
set_option linter.unusedVariables false in
set_option maxHeartbeats 6400000 in
set_option maxRecDepth 100000 in
theorem tSplit_in (n : Nat) (hn : 3 ≤ n) (s : ByteArray) (w : World) (hs : s.size ≤ maxLen) : CallsIn Fence.wide n Tryd.prog 38 #[.string s] w (SplitP s w) := by
  unfold maxLen at hs
  have hn1 : 1 ≤ n := by omega
  have hn2 : 1 ≤ n - 1 - 1 := by omega
  have mixed : Tryd.prog.follows .mixedOrders = true := by kernel_rfl
  obtain ⟨R, hR⟩ : ∃ R, splitS s = R := ⟨_, rfl⟩
  unfold SplitP
  rw [hR]
  refine callsIn_of_wp_marks Tryd.func38 rfl trivial ?_ rfl
  simp only [Tryd.ntmps38, List.size_toArray, List.length_cons, List.length_nil, Nat.reduceAdd, Nat.reduceSub, Array.replicate_succ, Array.replicate_zero, List.push_toArray, List.append_toArray, List.nil_append, List.cons_append]
  by_cases hbig : 16384 < s.size
  · have hRb : R = .bad 0 := by rw [← hR, splitS, if_pos hbig]
    subst hRb
    clear hR
    gi_wp2
    exact ⟨.tuple #[.slice none 0 0, .agg #[.int .i64 601, .int .i64 0]], by simp [results, Tryd.results38, go_sem], _, rfl, World.ownsRow_nil _ _ _ _, ((Below.refl _ _).alloc (Nat.le_refl _) _).alloc (by simp) _⟩
  · have hRr : run ((bts s).drop 0) 0 1 0 false none [] = R := by rw [← hR, splitS, if_neg hbig]; rfl
    have HR0 := Lib.hid hRr
    clear hR hRr
    gi_wp2_with (refine ⟨trivial, ?_⟩; gi_at_call 54; refine (callsIn_wide.2 (seqMake_any s _)).mono ?_; rintro e w' ⟨rfl, hw'⟩)
    rw [← hw']
    have hsz : w'.heap.size = w.heap.size + 7 := by rw [hw']; simp [seqWorld]
    refine range_wide (gf := 69) rfl (enters_of Tryd.func69 (by kernel_rfl) rfl) ?_
    intro lo l1 l2 l3 l4 l5 l6
    rw [hsz]
    simp only [Nat.add_assoc, Nat.reduceAdd] at l6 ⊢
    obtain ⟨W1, hW1⟩ : ∃ W1, (w'.alloc (.deferred (some []))).alloc (.loop lo) = W1 := ⟨_, rfl⟩
    have F0 : Fx w W1 (.slice none 0 0) ((0 : Nat) : Int) s lo := by
      rw [← hW1, hw']
      exact fx_start s w lo
    have HF0 := Lib.hid F0
    have HL := Lib.hid (And.intro l1 (And.intro l2 (And.intro l3 (And.intro l4 (And.intro l5 l6)))))
    rw [hW1]
    clear F0 l1 l2 l3 l4 l5 l6 hW1 hw' hsz
    have hround : ∀ (i len ln : Nat) (out : List Wd) (v : Value) (t tx : ByteArray) (W : World), Fx w W v (ln : Int) t lo → W.ownsRow (w.heap.size + 9) 99 3 v out.length (wcells s out) → ln ≤ i → out.length ≤ i →
        i + len ≤ s.size → bts tx = ((bts s).drop i).take len → (∀ y ∈ ((bts s).drop i).take len, y ≠ 10) → (s.size ≤ i + len ∨ ∃ r, (bts s).drop (i + len) = 10 :: r) → run ((bts s).drop i) i (ln + 1) i false none out = R →
        YieldAt Fence.wide (n - 1 - 1) Tryd.prog (w.heap.size + 8) #[.string tx] W fun e W' =>
          (e = .returned (.bool true) ∧ ∃ (out' : List Wd) (v' : Value) (com : Bool), Fx w W' v' ((ln + 1 : Nat) : Int) t lo ∧ W'.ownsRow (w.heap.size + 9) 99 3 v' out'.length (wcells s out') ∧ out'.length ≤ i + len ∧ run ((bts s).drop (i + len)) (i + len) (ln + 1) i com none out' = R) ∨
          (e = .returned (.bool false) ∧ R = .bad (ln + 1) ∧ Boxed W' w.heap.size 92 (.slice none 0 0) ∧ ErrAt W' (w.heap.size + 1) 601 ((ln + 1 : Nat) : Int) ∧ W'.heap[w.heap.size + 7]? = some (.deferred (some [])) ∧ W'.heap[w.heap.size + 8]? = some (.loop { lo with state := .done, pending := some .ret }) ∧ Below w.heap.size w W') := by
      intro i len ln out v t tx W hF hown hln hol hil htx hno hend hrun
      refine round_wide hF.h8 HL.out.2.2.1 HL.out.2.2.2.1 HL.out.2.2.2.2.1 HL.out.2.2.2.2.2 ?_
      have HF := Lib.hid hF
      have HOWN := Lib.hid hown
      have HTX := Lib.hid htx
      have HNO := Lib.hid hno
      have HEND := Lib.hid hend
      have HRUN := Lib.hid hrun
      clear hF hown htx hno hend hrun
      gi_wp2
      refine ⟨_, run_beginRound HF.out.h8 HL.out.1, ?_⟩
      obtain ⟨Wb, hWb⟩ : ∃ Wb, W.putObj (w.heap.size + 8) (.loop { lo with state := .busy }) = Wb := ⟨_, rfl⟩
      rw [hWb]
      have hFb := HF.out.loop { lo with state := .busy }
      have hOb := own_put HF.out { lo with state := .busy } HOWN.out
      rw [hWb] at hFb hOb
      have HFL := Lib.hid (hFb.line ((ln : Int) + 1))
      have HOL := Lib.hid (ownsRow_setCell_below (a := ⟨w.heap.size + 3, 0, none⟩) hOb (by show w.heap.size + 3 < w.heap.size + 9; omega) (.int .i64 ((ln : Int) + 1)))
      have c3 := hFb.h3.cell
      have f3 := hFb.h3.frozen
      have hsn : (s.size : Int) ≤ 16384 := by omega
      have htl : tx.size ≤ maxLen := by rw [← bts_len, HTX.out, List.length_take, List.length_drop, bts_len]; unfold maxLen; omega
      have HTL := Lib.hid htl
      clear hWb hFb hOb HF HOWN htl
      gi_wp2_with (fail)
      refine ⟨trivial, (CallsIn.inRound _ (callsIn_wide.2 (cut_any tx 35 _ HTL.out))).mono ?_⟩
      rintro e W2 ⟨⟨a, b, rfl, ha, hb⟩, hB2⟩
      rw [show (35 : UInt8).toNat = 35 from rfl] at ha
      obtain ⟨ca, hca⟩ : ∃ c, cutB (35 : UInt8).toNat (bts tx) = c := ⟨_, rfl⟩
      rw [hca]
      have HF2 := Lib.hid (HFL.out.next (hB2.mono (by have := HFL.out.lt; omega)))
      have HO2 := Lib.hid (own_below HOL.out hB2)
      have HS := Lib.hid (line_step hil HNO.out (by rw [ha, HTX.out]) HEND.out)
      have hal : a.size ≤ len := by
        have h1 := congrArg List.length ha
        rw [bts_len, cutA] at h1
        have h2 := (List.takeWhile_sublist (fun x => !decide (x = 35)) (l := bts tx)).length_le
        rw [HTX.out, List.length_take] at h2
        rw [HTX.out] at h1
        omega
      clear ha hb hca hB2 HFL HOL
      gi_wp2_with (fail)
      refine ⟨trivial, (CallsIn.inRound _ (callsIn_wide.2 (tpermitted_any a _))).mono ?_⟩
      rintro e W3 ⟨rfl, hB3⟩
      have HF3 := Lib.hid (HF2.out.next (hB3.mono (by have := HF2.out.lt; omega)))
      have HO3 := Lib.hid (own_below HO2.out hB3)
      have c3 := HF3.out.h3.cell
      have f3 := HF3.out.h3.frozen
      clear hB3 HF2 HO2
      cases hp : (bts a).all pmL
      · have HRB := Lib.hid ((HS.out.2.2.1 (ln + 1) out hp).symm.trans HRUN.out)
        have c0 := HF3.out.h0.cell
        have f0 := HF3.out.h0.frozen
        have e0 := HF3.out.h1.c0
        have e1 := HF3.out.h1.c1
        have g0 := HF3.out.h1.f0
        have g1 := HF3.out.h1.f1
        clear hp
        gi_wp2
        gi_region_o
        all_goals gi_wp2
        all_goals
          obtain ⟨r0, r1, r2, r3, r4⟩ := HF3.out.res (.slice none 0 0) 601 ((ln : Int) + 1)
          have hlt := (Array.getElem?_eq_some_iff.1 r3).1
          exact ⟨_, _, run_endRound (some .ret) r3, .inr ⟨rfl, HRB.out.symm, (World.putObj_heap_other (by omega)).trans r0, (World.putObj_heap_other (by omega)).trans r1, (World.putObj_heap_other (by omega)).trans r2, World.putObj_heap_same hlt, below_put_drew r4 (Nat.le_add_right _ _) hlt _⟩⟩
      · have c2 := HF3.out.h2.cell
        have f2 := HF3.out.h2.frozen
        have HPP := Lib.hid hp
        clear hp
        gi_wp2_with (fail)
        refine ⟨trivial, (CallsIn.inRound _ (callsIn_wide.2 (addWords_as s a (w.heap.size + 9) i a.size (ln + 1) _ v out R _ (by omega) HS.out.1 HS.out.2.1 (by omega) (by omega) hol HPP.out HS.out.2.2.2.1 HO3.out (by have := HF3.out.lt; omega) HRUN.out))).mono ?_⟩
        rintro e W4 ⟨v', out', rfl, hown', hol', hB4, hrun'⟩
        obtain ⟨q, kk, cc, rfl⟩ := own_shape hown'
        have HF4 := Lib.hid (HF3.out.next hB4)
        have HO4 := Lib.hid hown'
        obtain ⟨com, hcom⟩ := HS.out.2.2.2.2 (ln + 1) out'
        have HR4 := Lib.hid (hcom.symm.trans hrun')
        have c4 := HF4.out.h2.cell
        have f4 := HF4.out.h2.frozen
        clear hown' hB4 hrun' hcom
        gi_wp2
        have hF5 := HF4.out.words (.slice q kk cc)
        have hO5 := ownsRow_setCell_below (a := ⟨w.heap.size + 2, 0, none⟩) HO4.out (by show w.heap.size + 2 < w.heap.size + 9; omega) (.slice q kk cc)
        refine ⟨_, _, run_endRound none hF5.h8, .inl ⟨rfl, out', _, com, ?_, own_put hF5 _ hO5, by omega, HR4.out⟩⟩
        have hF6 : Fx w ((W4.setCell ⟨w.heap.size + 2, 0, none⟩ (.slice q kk cc)).putObj (w.heap.size + 8) (.loop { lo with state := .ready, pending := none })) (.slice q kk cc) ((ln : Int) + 1) t lo := by
          have h6 := hF5.loop { lo with state := .ready, pending := none }
          rw [loop_back HL.out.1 HL.out.2.1] at h6 ⊢
          exact h6
        rw [show ((ln + 1 : Nat) : Int) = (ln : Int) + 1 by omega]
        exact hF6
    have HRD := Lib.hid hround
    clear hround
    refine (seq_any (w.heap.size + 8) (w.heap.size + 4) (w.heap.size + 5) (w.heap.size + 6) (n - 1) (by omega) (by omega) (by omega)
      (fun t W => ∃ (i ln : Nat) (out : List Wd) (v : Value), t = s.extract i s.size ∧ i ≤ s.size ∧ ln ≤ i ∧ out.length ≤ i ∧ Fx w W v (ln : Int) t lo ∧ W.ownsRow (w.heap.size + 9) 99 3 v out.length (wcells s out) ∧ run ((bts s).drop i) i (ln + 1) i false none out = R)
      (fun W => ∃ (ln : Nat) (out : List Wd) (v : Value) (t : ByteArray), Fx w W v (ln : Int) t lo ∧ W.ownsRow (w.heap.size + 9) 99 3 v out.length (wcells s out) ∧ R = .ok out)
      (fun W' => ∃ ln : Nat, R = .bad (ln + 1) ∧ Boxed W' w.heap.size 92 (.slice none 0 0) ∧ ErrAt W' (w.heap.size + 1) 601 ((ln + 1 : Nat) : Int) ∧ W'.heap[w.heap.size + 7]? = some (.deferred (some [])) ∧ W'.heap[w.heap.size + 8]? = some (.loop { lo with state := .done, pending := some .ret }) ∧ Below w.heap.size w W')
      ?_ ?_ ?_ s W1 ?_).mono ?_
    · rintro t W ⟨i, ln, out, v, rfl, h1, h2, h3, hF, _, _⟩
      exact ⟨hF.h4, by rw [ByteArray.size_extract]; omega⟩
    · rintro t o W ⟨i, ln, out, v, ht, h1, h2, h3, hF, hO, hrun⟩ ho
      obtain ⟨p1, p2, p3⟩ := ind_some ho
      rw [show (10 : UInt8).toNat = 10 from rfl] at p2 p3
      have hts : t.size = s.size - i := by rw [ht, ByteArray.size_extract]; omega
      have hbt : bts t = (bts s).drop i := by rw [ht, bts_extract, List.take_of_length_le (by rw [List.length_drop, bts_len]; omega)]
      have htx : bts (t.extract 0 o) = ((bts s).drop i).take o := by rw [bts_extract, hbt]; simp
      have hlx : (bts (t.extract 0 o)).length = o := by rw [htx, List.length_take, List.length_drop, bts_len]; omega
      have hdr : (bts s).drop (i + o) = 10 :: bts (t.extract (o + 1) t.size) := by
        rw [← List.drop_drop, ← hbt, p2, List.drop_left' hlx]
      have hdr2 : (bts s).drop (i + o + 1) = bts (t.extract (o + 1) t.size) := by
        rw [show i + o + 1 = (i + o) + 1 from rfl, ← List.drop_drop, hdr]; rfl
      refine (HRD.out i o ln out v t (t.extract 0 o) W hF hO h2 h3 (by omega) htx (by rw [← htx]; exact p3) (.inr ⟨_, hdr⟩) hrun).mono ?_
      rintro e W' (⟨rfl, out', v', com, hF', hO', hl', hr'⟩ | ⟨rfl, hbad⟩)
      · refine .inl ⟨rfl, hF'.h4, i + o + 1, ln + 1, out', v', ?_, by omega, by omega, by omega, hF'.text _, ownsRow_setCell_below (a := ⟨w.heap.size + 4, 0, none⟩) hO' (by show w.heap.size + 4 < w.heap.size + 9; omega) _, ?_⟩
        · apply bts_inj
          rw [← hdr2, bts_extract, List.take_of_length_le (by rw [List.length_drop, bts_len]; omega)]
        · rw [hdr, run_line rfl, ← hdr2] at hr'
          exact hr'
      · exact .inr ⟨rfl, ln, hbad⟩
    · rintro t W ⟨i, ln, out, v, ht, h1, h2, h3, hF, hO, hrun⟩ ho
      have p3 := ind_none ho
      rw [show (10 : UInt8).toNat = 10 from rfl] at p3
      have hts : t.size = s.size - i := by rw [ht, ByteArray.size_extract]; omega
      have hbt : bts t = (bts s).drop i := by rw [ht, bts_extract, List.take_of_length_le (by rw [List.length_drop, bts_len]; omega)]
      have htx : bts t = ((bts s).drop i).take t.size := by rw [List.take_of_length_le (by rw [List.length_drop, bts_len]; omega)]; exact hbt
      refine (HRD.out i t.size ln out v t t W hF hO h2 h3 (by omega) htx (by rw [← htx]; exact p3) (.inl (by omega)) hrun).mono ?_
      rintro e W' (⟨rfl, out', v', com, hF', hO', hl', hr'⟩ | ⟨rfl, hbad⟩)
      · rw [bts_end s (by omega)] at hr'
        exact .inl ⟨rfl, ln + 1, out', v', t, hF', hO', hr'.symm⟩
      · exact .inr ⟨rfl, ln, hbad⟩
    · refine ⟨0, 0, [], .slice none 0 0, ?_, by omega, by omega, by simp, HF0.out, World.ownsRow_nil _ _ _ _, HR0.out⟩
      apply bts_inj
      rw [bts_extract, List.drop_zero, List.take_of_length_le (by rw [bts_len]; omega)]
    · rintro e W2 ⟨⟨v, rfl⟩, (⟨ln, out, v', t, hF, hO, rfl⟩ | ⟨ln, rfl, r0, r1, r2, r3, r4⟩)⟩
      · have hend := run_endLoop (P := Tryd.prog) hF.h8 (by rw [HL.out.1]; decide)
        rw [HL.out.2.1] at hend
        refine ⟨none, _, hend, ?_⟩
        clear hend
        obtain ⟨q, kk, cc, rfl⟩ := own_shape hO
        have hF5 := hF.loop { lo with state := .exhausted, pending := none }
        have hO5 := own_put hF { lo with state := .exhausted, pending := none } hO
        have c0 := hF5.h0.cell
        have f0 := hF5.h0.frozen
        have c2 := hF5.h2.cell
        have f2 := hF5.h2.frozen
        have e0 := hF5.h1.c0
        have e1 := hF5.h1.c1
        have g0 := hF5.h1.f0
        have g1 := hF5.h1.f1
        obtain ⟨W5, hW5⟩ : ∃ W5, W2.putObj (w.heap.size + 8) (.loop { lo with state := .exhausted, pending := none }) = W5 := ⟨_, rfl⟩
        rw [hW5] at hF5 hO5 c0 f0 c2 f2 e0 e1 g0 g1
        have HF5 := Lib.hid hF5
        have HO5 := Lib.hid hO5
        dsimp only
        rw [hW5]
        clear hW5 hF5 hO5 hF hO
        gi_wp2
        obtain ⟨r0, r1, r2, r3, r4⟩ := HF5.out.res (.slice q kk cc) 0 0
        have hO6 := ownsRow_setCell_below (a := ⟨w.heap.size + 1, 1, none⟩) (ownsRow_setCell_below (a := ⟨w.heap.size + 1, 0, none⟩) (ownsRow_setCell_below (a := ⟨w.heap.size, 0, none⟩) HO5.out (by show w.heap.size < w.heap.size + 9; omega) (.slice q kk cc)) (by show w.heap.size + 1 < w.heap.size + 9; omega) (.int .i64 0)) (by show w.heap.size + 1 < w.heap.size + 9; omega) (.int .i64 0)
        obtain ⟨W6, hW6⟩ : ∃ W6, (((W5.setCell ⟨w.heap.size, 0, none⟩ (.slice q kk cc)).setCell ⟨w.heap.size + 1, 0, none⟩ (.int .i64 0)).setCell ⟨w.heap.size + 1, 1, none⟩ (.int .i64 0)) = W6 := ⟨_, rfl⟩
        rw [hW6] at r0 r1 r2 r3 r4 hO6 ⊢
        clear hW6
        refine ⟨by simp, .inl ⟨_, _, rfl, run_takeDeferred r2, ?_⟩⟩
        have hlt := (Array.getElem?_eq_some_iff.1 r3).1
        have hO7 := ownsRow_putObj hO6 (.deferred none) r2 rfl
        have b7 := below_put r4 (b := w.heap.size + 7) (Nat.le_add_right _ _) (Nat.le_trans (Nat.le_add_right _ _) (Nat.le_of_lt hlt)) (.deferred none)
        have r0' := (World.putObj_heap_other (o := .deferred none) (r := w.heap.size + 7) (by omega)).trans r0
        have r1' := (World.putObj_heap_other (o := .deferred none) (r := w.heap.size + 7) (by omega)).trans r1
        obtain ⟨W7, hW7⟩ : ∃ W7, World.putObj W6 (w.heap.size + 7) (.deferred none) = W7 := ⟨_, rfl⟩
        rw [hW7] at hO7 b7 r0' r1' ⊢
        have q0 := Boxed.cell r0'
        have q1 := ErrAt.c0 r1'
        have q2 := ErrAt.c1 r1'
        exact ⟨.tuple #[.slice q kk cc, .agg #[.int .i64 0, .int .i64 0]], by simp [results, Tryd.results38, go_sem, q0, q1, q2], _, rfl, owns_base hO7 (by omega), b7⟩
      · have hend := run_endLoop (P := Tryd.prog) r3 (fun h => by cases h)
        refine ⟨some .ret, _, hend, ?_⟩
        clear hend
        have hlt := (Array.getElem?_eq_some_iff.1 r3).1
        have b5 := below_put r4 (b := w.heap.size + 8) (Nat.le_add_right _ _) (Nat.le_trans (Nat.le_add_right _ _) (Nat.le_of_lt hlt)) (.loop { lo with state := .exhausted, pending := some .ret })
        have s0 := (World.putObj_heap_other (o := .loop { lo with state := .exhausted, pending := some .ret }) (r := w.heap.size + 8) (by omega)).trans r0
        have s1 := (World.putObj_heap_other (o := .loop { lo with state := .exhausted, pending := some .ret }) (r := w.heap.size + 8) (by omega)).trans r1
        have s2 := (World.putObj_heap_other (o := .loop { lo with state := .exhausted, pending := some .ret }) (r := w.heap.size + 8) (by omega)).trans r2
        dsimp only
        obtain ⟨W5, hW5⟩ : ∃ W5, W2.putObj (w.heap.size + 8) (.loop { lo with state := .exhausted, pending := some .ret }) = W5 := ⟨_, rfl⟩
        rw [hW5] at b5 s0 s1 s2 ⊢
        have hlt5 : w.heap.size + 7 < W5.heap.size := (Array.getElem?_eq_some_iff.1 s2).1
        clear hW5
        gi_wp2
        refine ⟨by simp, .inl ⟨_, _, rfl, run_takeDeferred s2, ?_⟩⟩
        have b7 := below_put b5 (b := w.heap.size + 7) (Nat.le_add_right _ _) (Nat.le_trans (Nat.le_add_right _ _) (Nat.le_of_lt hlt5)) (.deferred none)
        have r0' := (World.putObj_heap_other (o := .deferred none) (r := w.heap.size + 7) (by omega)).trans s0
        have r1' := (World.putObj_heap_other (o := .deferred none) (r := w.heap.size + 7) (by omega)).trans s1
        obtain ⟨W7, hW7⟩ : ∃ W7, World.putObj W5 (w.heap.size + 7) (.deferred none) = W7 := ⟨_, rfl⟩
        rw [hW7] at b7 r0' r1' ⊢
        have q0 := Boxed.cell r0'
        have q1 := ErrAt.c0 r1'
        have q2 := ErrAt.c1 r1'
        exact ⟨.tuple #[.slice none 0 0, .agg #[.int .i64 601, .int .i64 ((ln + 1 : Nat) : Int)]], by simp [results, Tryd.results38, go_sem, q0, q1, q2], _, rfl, World.ownsRow_nil _ _ _ _, b7⟩
theorem tSplit_any (s : ByteArray) (w : World) (hs : s.size ≤ maxLen) : Calls Tryd.prog 38 #[ .string s ] w (SplitP s w) := callsIn_wide.1 (tSplit_in 3 (by omega) s w hs)
end Go.Proofs.YtnahlpeckfcciaaDoor
