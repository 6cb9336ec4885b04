/- Proved: an append of whatever slice to a row of the call's own, as a law for the walk; one joint of a list changed in one cell. Conditions: as each theorem states. -/
import Derived.Test.YtpaiapcnoifpmaaDoorRb11
import Derived.Laws.OwnMore
namespace Go.Proofs.YtpaiapcnoifpmaaDoor
open Go.RowKit

section
variable {P : Program} {w : World}
theorem run_append_none (base : Nat) (t ty e : TypeId) (i : TypeInfo) (size : Nat) (ht : P.underlying t = some (.slice e)) (hi : P.info? e = some i)
    (v : Value) (n c : Nat) (xs : List Value) (hown : w.ownsRow base e size v n xs) :
    (Builtin.append_ #[t, t] ty #[v, .slice none 0 c]).run P w = .ok v w := by
  rcases hown.2 with ⟨rfl, rfl⟩ | ⟨g, cap, cur, rfl, _, _, hnc, _⟩
  · simp [Builtin.append_, run_underlying ht, sizeOf, typeInfo, hi, Builtin.lenOf, Builtin.firstCells]
  · simp [Builtin.append_, run_underlying ht, sizeOf, typeInfo, hi, Builtin.lenOf, Builtin.firstCells, hnc, storeCells]
theorem wp_append_any {o : Oper} {a : Act} {K : Act → World → Prop} {Q : Exit → Act → World → Prop} (s x : Operand) (t : TypeId)
    (ho : o.op = .call { callee := .builtin .append, args := #[s, x], argTypes := #[t, t] })
    (base : Nat) (e : TypeId) (i : TypeInfo) (z : Value) (size bytes : Nat) (ht : P.underlying t = some (.slice e)) (hi : P.info? e = some i) (hz : i.zero = some z)
    (hsize : i.size = size) (hby : i.bytes = bytes) (hzs : z.cells.size = size) (hsz : 0 < size)
    (v : Value) (n : Nat) (xs : List Value) (hs : a.eval s = v) (hown : w.ownsRow base e size v n xs)
    (A : Option Addr) (m c : Nat) (news : List Value) (hx : a.eval x = .slice A m c) (hl : news.length = m * size) (hA : 0 < m → ∃ ad, A = some ad ∧ ∀ j u, news[j]? = some u → w.cell? (ad.add j) = some u) (h1 : ∀ u ∈ news, u.oneCell' = true)
    (h63 : n + m ≤ maxLen) (hbytes : (n + m) * bytes ≤ 140737488355328) (hbase : base ≤ w.heap.size)
    (h : ∀ v' w', w'.ownsRow base e size v' (n + m) (xs ++ news) → w.grownBy w' v.ownBlock → K (a.put o.dst v') w') : o.wp P a w K Q := by
  cases A with
  | some ad =>
    by_cases hm : 0 < m
    · obtain ⟨ad', e1, hnews⟩ := hA hm
      injection e1 with e1
      subst e1
      exact wp_append_own w s x t ho base e i z size bytes ht hi hz hsize hby hzs hsz v n xs hs hown ad m c news hx hl hnews h1 h63 hbytes hbase (fun v' w' h2 h3 _ => h v' w' h2 h3)
    · obtain rfl : m = 0 := by omega
      have hn : news = [] := List.eq_nil_of_length_eq_zero (by simpa using hl)
      subst hn
      exact wp_append_own w s x t ho base e i z size bytes ht hi hz hsize hby hzs hsz v n xs hs hown ad 0 c [] hx hl (fun j u hu => by simp at hu) h1 h63 hbytes hbase (fun v' w' h2 h3 _ => h v' w' h2 h3)
  | none =>
    by_cases hm : 0 < m
    · obtain ⟨ad, e1, _⟩ := hA hm
      cases e1
    · obtain rfl : m = 0 := by omega
      have hn : news = [] := List.eq_nil_of_length_eq_zero (by simpa using hl)
      subst hn
      have hr := run_append_none (P := P) (w := w) base t o.type e i size ht hi v n c xs hown
      unfold Oper.wp execOp
      simp only [ho, resolve, invoke, builtin, Sem.run_bind, Sem.run_pure, Result.andThen_ok, List.map_toArray, List.map_cons, List.map_nil, hs, hx, hr]
      exact h v w (by simpa using hown) ⟨rfl, rfl, rfl, Nat.le_refl _, fun _ _ _ => rfl⟩
end
theorem own_cap {w : World} {base : Nat} {e : TypeId} {size : Nat} {v : Value} {n : Nat} {xs : List Value} (h : w.ownsRow base e size v n xs) : ∃ q c, v = .slice q n c := by
  rcases h.2 with ⟨rfl, h0⟩ | ⟨g, cap, cur, rfl, _⟩
  · subst h0; exact ⟨none, 0, rfl⟩
  · exact ⟨_, _, rfl⟩
theorem jcells_put (js : List JointD) : ∀ (k : Nat) (hk : k < js.length) (f : Nat) (_ : f < 12) (u : Value) (j' : JointD), (jointC js[k]).toList.set f u = (jointC j').toList → jcells (js.set k j') = (jcells js).set (k * 12 + f) u := by
  induction js with
  | nil => intro k hk; exact absurd hk (Nat.not_lt_zero _)
  | cons j js ih =>
    intro k hk f hf u j' he
    have hl : (jointC j).toList.length = 12 := rfl
    have e : jcells (j :: js) = (jointC j).toList ++ jcells js := rfl
    match k, hk with
    | 0, _ =>
      rw [e, Nat.zero_mul, Nat.zero_add, List.set_append_left _ _ (by rw [hl]; exact hf)]
      show jcells (j' :: js) = _
      rw [show jcells (j' :: js) = (jointC j').toList ++ jcells js from rfl, ← he]
      rfl
    | k + 1, hk =>
      rw [e, List.set_append_right _ _ (by rw [hl]; omega), hl, show (k + 1) * 12 + f - 12 = k * 12 + f by omega, ← ih k (by simpa using hk) f hf u j' he]
      rfl
/-- A robot of the call's own: the block O that holds it, its rows; the result's block. -/
structure XS (w : World) (O : Nat) (W : World) (js : List JointD) (ms : List MassD) (vj vm : Value) : Prop where
  ro : RobAt W O vj vm
  re : RobAt W (w.heap.size + 1) (.slice none 0 0) (.slice none 0 0)
  oj : W.ownsRow w.heap.size 60 12 vj js.length (jcells js)
  om : W.ownsRow w.heap.size 74 5 vm ms.length (mcells ms)
  bl : Below w.heap.size w W
  ob : w.heap.size + 1 < O
  l1 : 1 ≤ js.length
  lj : js.length ≤ 11
  lm : ms.length ≤ 33
  ij : ∀ k (h : k < js.length), InJ js[k]
  im : ∀ k (h : k < ms.length), InM ms[k]
section
variable {w W V : World} {O : Nat} {js : List JointD} {ms : List MassD} {vj vm : Value}
theorem XS.next (h : XS w O W js ms vj vm) (hb : Below W.heap.size W V) : XS w O V js ms vj vm :=
  ⟨h.ro.below hb h.ro.lt', h.re.below hb h.re.lt', own_below h.oj hb, own_below h.om hb, bl_next hb h.bl, h.ob, h.l1, h.lj, h.lm, h.ij, h.im⟩
theorem XS.robD (h : XS w O W js ms vj vm) : RobD W vj vm js ms := ⟨own_rdO h.oj, own_rdO h.om, by have := h.lj; omega, by have := h.lm; omega, h.ij, h.im⟩
theorem XS.put {g cap n : Nat} (h : XS w O W js ms (.slice (some ⟨g, 0, none⟩) n cap) vm) (hn : n = js.length) (k : Nat) (hk : k < js.length) (f : Nat) (hf : f < 12) (u : Value) (j' : JointD) (he : (jointC js[k]).toList.set f u = (jointC j').toList) (hj : InJ j') :
    XS w O (W.setCell ⟨g, k * 12 + f, none⟩ u) (js.set k j') ms (.slice (some ⟨g, 0, none⟩) n cap) vm := by
  subst hn
  obtain ⟨o1, _⟩ := h.oj.stored (k * 12 + f) u
  have hg : w.heap.size ≤ g := (h.oj.lt g rfl).1
  have hne : vm.ownBlock = none ∨ vm.ownBlock ≠ some g := own_apart h.om h.oj (by decide)
  have h1 : O ≠ g := fun e => own_ne h.oj h.ro (by decide) (by rw [e]; rfl)
  have h2 : w.heap.size + 1 ≠ g := fun e => own_ne h.oj h.re (by decide) (by rw [e]; rfl)
  refine ⟨(heap_setCell_other _ _ _ _ (by dsimp only; exact h1)).trans h.ro, (heap_setCell_other _ _ _ _ (by dsimp only; exact h2)).trans h.re, ?_, ?_, h.bl.setCell (by dsimp only; exact hg) _, h.ob, by rw [List.length_set]; exact h.l1, by rw [List.length_set]; exact h.lj, h.lm, fun q hq => ?_, h.im⟩
  · rw [List.length_set, jcells_put js k hk f hf u j' he]
    exact o1
  · exact ownsRow_setCell_other h.om (a := ⟨g, k * 12 + f, none⟩) (hne.elim (fun h => by rw [h]; exact fun e => by cases e) id) _
  · rw [List.getElem_set]
    split
    · exact hj
    · exact h.ij _ _
theorem XS.pushM {w1 : World} {v' : Value} {m : MassD} (h : XS w O W js ms vj vm) (hown : w1.ownsRow w.heap.size 74 5 v' (ms.length + 1) (mcells ms ++ (massC m).toList)) (hg : W.grownBy w1 vm.ownBlock) (hl : ms.length < 33) (hm : InM m) :
    RobAt w1 O vj vm ∧ XS w O (w1.setCell ⟨O, 1, none⟩ v') js (ms ++ [m]) vj v' := by
  have hr : ∀ k, vm.ownBlock = some k → w.heap.size ≤ k := fun k hk => (h.om.lt k hk).1
  have hb : RobAt w1 O vj vm := (hg.block _ h.ro.lt' (fun e => own_ne h.om h.ro (by decide) e.symm)).trans h.ro
  have he : RobAt w1 (w.heap.size + 1) (.slice none 0 0) (.slice none 0 0) := (hg.block _ h.re.lt' (fun e => own_ne h.om h.re (by decide) e.symm)).trans h.re
  have oj1 := h.oj.kept hg (own_apart h.oj h.om (by decide))
  have n1 : vj.ownBlock ≠ some O := own_ne oj1 hb (by decide)
  have n2 : v'.ownBlock ≠ some O := own_ne hown hb (by decide)
  refine ⟨hb, heap_setCell_same w1 O 1 _ _ v' hb, (heap_setCell_other _ _ _ _ (by dsimp only; have := h.ob; omega)).trans he, ownsRow_setCell_other oj1 (a := ⟨O, 1, none⟩) n1 _, ?_, (h.bl.grown hg (by have := h.bl.size; omega) hr).setCell (by dsimp only; have := h.ob; omega) _, h.ob, h.l1, h.lj, by rw [List.length_append]; simp; omega, h.ij, fun q hq => ?_⟩
  · rw [List.length_append, mcells_snoc]
    exact ownsRow_setCell_other hown (a := ⟨O, 1, none⟩) n2 _
  · rw [List.getElem_append]
    split
    · exact h.im _ _
    · rw [List.getElem_singleton]; exact hm
theorem XS.pushJ {w1 : World} {v' : Value} {j : JointD} (h : XS w O W js ms vj vm) (hown : w1.ownsRow w.heap.size 60 12 v' (js.length + 1) (jcells js ++ (jointC j).toList)) (hg : W.grownBy w1 vj.ownBlock) (hl : js.length < 11) (hj : InJ j) :
    RobAt w1 O vj vm ∧ XS w O (w1.setCell ⟨O, 0, none⟩ v') (js ++ [j]) ms v' vm := by
  have hr : ∀ k, vj.ownBlock = some k → w.heap.size ≤ k := fun k hk => (h.oj.lt k hk).1
  have hb : RobAt w1 O vj vm := (hg.block _ h.ro.lt' (fun e => own_ne h.oj h.ro (by decide) e.symm)).trans h.ro
  have he : RobAt w1 (w.heap.size + 1) (.slice none 0 0) (.slice none 0 0) := (hg.block _ h.re.lt' (fun e => own_ne h.oj h.re (by decide) e.symm)).trans h.re
  have om1 := h.om.kept hg (own_apart h.om h.oj (by decide))
  have n1 : vm.ownBlock ≠ some O := own_ne om1 hb (by decide)
  have n2 : v'.ownBlock ≠ some O := own_ne hown hb (by decide)
  refine ⟨hb, heap_setCell_same w1 O 0 _ _ v' hb, (heap_setCell_other _ _ _ _ (by dsimp only; have := h.ob; omega)).trans he, ?_, ownsRow_setCell_other om1 (a := ⟨O, 0, none⟩) n1 _, (h.bl.grown hg (by have := h.bl.size; omega) hr).setCell (by dsimp only; have := h.ob; omega) _, h.ob, by rw [List.length_append]; simp, by rw [List.length_append]; simp; omega, h.lm, fun q hq => ?_, h.im⟩
  · rw [List.length_append, jcells_snoc]
    exact ownsRow_setCell_other hown (a := ⟨O, 0, none⟩) n2 _
  · rw [List.getElem_append]
    split
    · exact h.ij _ _
    · rw [List.getElem_singleton]; exact hj
end
end Go.Proofs.YtpaiapcnoifpmaaDoor
