/- Proved: the developers' collecting of words into statements, line by line: what it leaves reads as the statements of Sy2. Conditions: the words read as a list of at most 16384. -/
import Derived.Test.YtnahlpeckfcciaaDoorSyE
namespace Go.Proofs.YtnahlpeckfcciaaDoor
open Go.RowKit

/-- One word more. -/
def stepS (l : List St) (x : Tw) : List St := match l.getLast? with
  | none => [⟨x.l, x.t, []⟩]
  | some g => if g.line = x.l then l.dropLast ++ [⟨g.line, g.word, g.args ++ [x.t]⟩] else l ++ [⟨x.l, x.t, []⟩]
theorem step_nil (x : Tw) : stepS [] x = [⟨x.l, x.t, []⟩] := rfl
theorem step_same (l : List St) (g : St) (x : Tw) (h : g.line = x.l) : stepS (l ++ [g]) x = l ++ [⟨g.line, g.word, g.args ++ [x.t]⟩] := by
  unfold stepS
  simp [h]
theorem step_new (l : List St) (g : St) (x : Tw) (h : ¬ g.line = x.l) : stepS (l ++ [g]) x = (l ++ [g]) ++ [⟨x.l, x.t, []⟩] := by
  unfold stepS
  simp [h]
/-- A statement and what follows. -/
def joinG (g : St) (l : List St) : List St := match l with
  | [] => [g]
  | h :: t => if h.line = g.line then ⟨g.line, g.word, g.args ++ h.word :: h.args⟩ :: t else g :: h :: t
theorem grp_joinG (x : Tw) (ws : List Tw) : grp (x :: ws) = joinG ⟨x.l, x.t, []⟩ (grp ws) := by
  rw [grp]
  unfold joinG
  cases grp ws with
  | nil => rfl
  | cons h t => simp only; split <;> simp
theorem fold_joinG (ws : List Tw) : ∀ (l : List St) (g : St), ws.foldl stepS (l ++ [g]) = l ++ joinG g (grp ws) := by
  induction ws with
  | nil => intro l g; simp [grp, joinG]
  | cons x ws ih =>
    intro l g
    rw [List.foldl_cons]
    by_cases h : g.line = x.l
    · rw [step_same l g x h, ih, grp_joinG]
      congr 1
      unfold joinG
      cases hg : grp ws with
      | nil => simp [h]
      | cons a t =>
        by_cases ha : a.line = x.l
        · simp [h, ha]
        · have ha2 : ¬ a.line = g.line := by rw [h]; exact ha
          simp [h, ha]
    · rw [step_new l g x h, ih, List.append_assoc, grp_joinG]
      congr 1
      obtain ⟨a, t, h1, h2⟩ := grp_head x ws
      rw [grp_joinG] at h1
      rw [h1]
      have h3 : ¬ a.line = g.line := by rw [h2]; exact fun e => h e.symm
      simp [joinG, h3]
theorem fold_grp (ws : List Tw) : ws.foldl stepS [] = grp ws := by
  cases ws with
  | nil => rfl
  | cons x ws =>
    rw [List.foldl_cons, step_nil, grp_joinG]
    exact fold_joinG ws [] ⟨x.l, x.t, []⟩
theorem fold_succ (ws : List Tw) {k : Nat} (h : k < ws.length) : (ws.take (k + 1)).foldl stepS [] = stepS ((ws.take k).foldl stepS []) ws[k] := by
  rw [List.take_succ_eq_append_getElem h, List.foldl_append]
  rfl
theorem step_count (l : List St) (x : Tw) : (stepS l x).length ≤ l.length + 1 := by
  unfold stepS
  split
  · simp
  · split
    · first | (simp; done) | (simp; omega)
    · simp
theorem fold_count (ws : List Tw) (k : Nat) (h : k ≤ ws.length) : ((ws.take k).foldl stepS []).length ≤ k := by
  induction k with
  | zero => simp
  | succ k ih => rw [fold_succ ws (by omega)]; have := step_count ((ws.take k).foldl stepS []) ws[k]; have := ih (by omega); omega
theorem step_args (l : List St) (x : Tw) (n : Nat) (h : ∀ g ∈ l, g.args.length ≤ n) : ∀ g ∈ stepS l x, g.args.length ≤ n + 1 := by
  intro g hg
  unfold stepS at hg
  split at hg
  · simp at hg; subst hg; simp
  · rename_i g0 h0
    have hm : g0 ∈ l := List.mem_of_getLast? h0
    split at hg
    · rcases List.mem_append.1 hg with hg | hg
      · have := h g (List.dropLast_subset l hg); omega
      · simp at hg; subst hg; simp; exact h g0 hm
    · rcases List.mem_append.1 hg with hg | hg
      · have := h g hg; omega
      · simp at hg; subst hg; simp
theorem fold_args (ws : List Tw) (k : Nat) (h : k ≤ ws.length) : ∀ g ∈ (ws.take k).foldl stepS [], g.args.length ≤ k := by
  induction k with
  | zero => intro g hg; simp at hg
  | succ k ih => rw [fold_succ ws (by omega)]; exact step_args _ _ k (ih (by omega))
/-- The statements so far in memory: all but the last are done; what the last one holds lies above theirs. -/
structure Acc (B M : Nat) (W : World) (v : Value) (init : List St) (vi : List Value) (g : St) (vg : Value) : Prop where
  len : vi.length = init.length
  row : W.ownsRow B 55 3 v (init.length + 1) (stcells init vi ++ stcell g vg)
  low : B ≤ M
  high : M ≤ W.heap.size
  old : ∀ (k : Nat) (h : k < init.length), OwnT B W (vi.getD k undef) init[k].args ∧ ∀ q, (vi.getD k undef).ownBlock = some q → q < M
  own : OwnT M W vg g.args
section
variable {B M : Nat} {W : World} {v : Value} {init : List St} {vi : List Value} {g : St} {vg : Value} {q c : Nat}
theorem Acc.alloc (h : Acc B M W v init vi g vg) (o : Obj) : Acc B M (W.alloc o) v init vi g vg :=
  ⟨h.len, World.ownsRow.alloc h.row o, h.low, by have := h.high; simp; omega, fun k hk => ⟨World.ownsRow.alloc (h.old k hk).1 o, (h.old k hk).2⟩, World.ownsRow.alloc h.own o⟩
theorem Acc.drewN (h : Acc B M W v init vi g vg) (n : Nat) : Acc B M (W.drewN n) v init vi g vg := ⟨h.len, h.row, h.low, h.high, h.old, h.own⟩
theorem Acc.drew (h : Acc B M W v init vi g vg) : Acc B M W.drew v init vi g vg := ⟨h.len, h.row, h.low, h.high, h.old, h.own⟩
theorem Acc.form (h : Acc B M W v init vi g vg) : ∃ q c, v = .slice (some ⟨q, 0, none⟩) (init.length + 1) c ∧ B ≤ q ∧ q < W.heap.size := by
  rcases h.row.2 with ⟨_, h0⟩ | ⟨q, cap, cur, hv, hB, hq, _⟩
  · omega
  · exact ⟨q, cap, hv, hB, lt_of_block hq⟩
theorem stcells_len {l : List St} {vs : List Value} (h : vs.length = l.length) : (stcells l vs).length = l.length * 3 := by
  induction l generalizing vs with
  | nil => cases vs with
    | nil => rfl
    | cons x vs => simp at h
  | cons y l ih => cases vs with
    | nil => simp at h
    | cons x vs => simp only [stcells, List.length_append, List.length_cons]; rw [ih (by simpa using h)]; simp [stcell]; omega
theorem Acc.cells (h : Acc B M W (.slice (some ⟨q, 0, none⟩) (init.length + 1) c) init vi g vg) :
    W.cell? ⟨q, init.length * 3, none⟩ = some (.int .i64 g.line) ∧ W.cell? ⟨q, init.length * 3 + 1, none⟩ = some (.string g.word) ∧ W.cell? ⟨q, init.length * 3 + 2, none⟩ = some vg := by
  have hl := stcells_len h.len
  refine ⟨?_, ?_, ?_⟩
  · rw [h.row.cellAt _ (by omega), List.getElem?_append_right (by omega), hl, Nat.sub_self]; rfl
  · rw [h.row.cellAt _ (by omega), List.getElem?_append_right (by omega), hl, Nat.add_sub_cancel_left]; rfl
  · rw [h.row.cellAt _ (by omega), List.getElem?_append_right (by omega), hl, Nat.add_sub_cancel_left]; rfl
theorem Acc.first {w1 : World} {v' : Value} {line : Int} {word : ByteArray} (hown : w1.ownsRow B 55 3 v' 1 (stcell ⟨line, word, []⟩ (.slice none 0 0))) (hB : B ≤ w1.heap.size) : Acc B w1.heap.size w1 v' [] [] ⟨line, word, []⟩ (.slice none 0 0) :=
  ⟨rfl, hown, hB, Nat.le_refl _, fun k hk => absurd hk (by simp), World.ownsRow_nil _ _ _ _⟩
theorem Acc.push {w1 : World} {v' : Value} {line : Int} {word : ByteArray} (h : Acc B M W v init vi g vg) (hown : w1.ownsRow B 55 3 v' (init.length + 1 + 1) ((stcells init vi ++ stcell g vg) ++ stcell ⟨line, word, []⟩ (.slice none 0 0))) (hg : W.grownBy w1 v.ownBlock) :
    Acc B w1.heap.size w1 v' (init ++ [g]) (vi ++ [vg]) ⟨line, word, []⟩ (.slice none 0 0) := by
  have hs := hg.size
  have hh := h.high
  have hlo := h.low
  have kp : ∀ {M : Nat} {u : Value} {xs : List ByteArray}, OwnT M W u xs → OwnT M w1 u xs := fun {M u xs} hu => World.ownsRow.kept hu hg (own_apart hu h.row (by decide))
  refine ⟨by simp [h.len], by rw [stcells_snoc h.len, List.length_append]; exact hown, by omega, Nat.le_refl _, fun k hk => ?_, World.ownsRow_nil _ _ _ _⟩
  rcases Nat.lt_or_ge k init.length with hlt | hge
  · rw [List.getElem_append_left hlt, List.getD_eq_getElem?_getD, List.getElem?_append_left (by rw [h.len]; exact hlt), ← List.getD_eq_getElem?_getD]
    refine ⟨kp (h.old k hlt).1, fun q hq => ?_⟩
    have := (h.old k hlt).2 q hq
    omega
  · have e : k = init.length := by simp at hk; omega
    subst e
    have e2 : (vi ++ [vg]).getD init.length undef = vg := by rw [List.getD_eq_getElem?_getD, List.getElem?_append_right (by rw [h.len]; exact Nat.le_refl _), h.len, Nat.sub_self]; rfl
    rw [e2]
    have e3 : (init ++ [g])[init.length]'hk = g := by simp
    rw [e3]
    have ho := kp h.own
    exact ⟨owns_base ho h.low, fun q hq => (World.ownsRow.lt ho q hq).2⟩
theorem Acc.more {w1 : World} {va : Value} {y : ByteArray} (h : Acc B M W (.slice (some ⟨q, 0, none⟩) (init.length + 1) c) init vi g vg) (hown : w1.ownsRow M 9 1 va (g.args.length + 1) (g.args.map .string ++ [.string y])) (hg : W.grownBy w1 vg.ownBlock) :
    w1.frozen? ⟨q, init.length * 3 + 2, none⟩ = false ∧ (∃ u, w1.cell? ⟨q, init.length * 3 + 2, none⟩ = some u) ∧ Acc B M (w1.setCell ⟨q, init.length * 3 + 2, none⟩ va) (.slice (some ⟨q, 0, none⟩) (init.length + 1) c) init vi ⟨g.line, g.word, g.args ++ [y]⟩ va := by
  have hs := hg.size
  have hh := h.high
  have hrow := h.row.kept hg (own_apart h.row h.own (by decide))
  have hl := stcells_len h.len
  obtain ⟨hst, _⟩ := hrow.stored (init.length * 3 + 2) va
  have key : (stcells init vi ++ stcell g vg).set (init.length * 3 + 2) va = stcells init vi ++ stcell ⟨g.line, g.word, g.args ++ [y]⟩ va := by
    rw [List.set_append_right _ _ (by omega), hl, Nat.add_sub_cancel_left]
    rfl
  rw [key] at hst
  refine ⟨hrow.frozenAt _, ⟨vg, ?_⟩, h.len, hst, h.low, by simp [World.setCell]; omega, fun k hk => ?_, ?_⟩
  · rw [hrow.cellAt _ (by omega), List.getElem?_append_right (by omega), hl, Nat.add_sub_cancel_left]; rfl
  · obtain ⟨h1, h2⟩ := h.old k hk
    have h3 : OwnT B w1 (vi.getD k undef) init[k].args := World.ownsRow.kept h1 hg (by
      cases hb : (vi.getD k undef).ownBlock with
      | none => exact .inl rfl
      | some x =>
        right
        intro e
        have a1 := h2 x hb
        have a2 := (World.ownsRow.lt h.own x e.symm).1
        omega)
    refine ⟨ownsRow_setCell_other h3 ?_ _, h2⟩
    rcases own_apart h3 hrow (by decide) with e | e
    · rw [e]; simp
    · exact e
  · have h3 : OwnT M w1 va (g.args ++ [y]) := by
      unfold OwnT
      rw [List.length_append, List.map_append]
      exact hown
    refine ownsRow_setCell_other h3 ?_ _
    rcases own_apart h3 hrow (by decide) with e | e
    · rw [e]; simp
    · exact e
theorem Acc.outS (h : Acc B M W v init vi g vg) : OutS B W v (init ++ [g]) (vi ++ [vg]) := by
  refine ⟨by simp [h.len], by rw [stcells_snoc h.len, List.length_append]; exact h.row, fun k hk => ?_⟩
  rcases Nat.lt_or_ge k init.length with hlt | hge
  · rw [List.getElem_append_left hlt, List.getD_eq_getElem?_getD, List.getElem?_append_left (by rw [h.len]; exact hlt), ← List.getD_eq_getElem?_getD]
    exact (h.old k hlt).1
  · have e : k = init.length := by simp at hk; omega
    subst e
    have e2 : (vi ++ [vg]).getD init.length undef = vg := by rw [List.getD_eq_getElem?_getD, List.getElem?_append_right (by rw [h.len]; exact Nat.le_refl _), h.len, Nat.sub_self]; rfl
    rw [e2]
    have e3 : (init ++ [g])[init.length]'hk = g := by simp
    rw [e3]
    exact owns_base h.own h.low
end
/-- What there is behind k words. -/
def SoFar (w wr : World) (v : Value) (l : List St) : Prop := (l = [] ∧ v = .slice none 0 0) ∨ ∃ M init vi g vg, l = init ++ [g] ∧ Acc w.heap.size M wr v init vi g vg
theorem news3 (W : World) (a b c : Value) (T : TypeId) : ∀ k u, [a, b, c][k]? = some u → (W.alloc (.cells #[a, b, c] T)).cell? ((⟨W.heap.size, 0, none⟩ : Addr).add k) = some u := newsS W a b c T
set_option linter.unusedSimpArgs false in
set_option linter.unusedVariables false in
set_option maxRecDepth 100000 in
set_option maxHeartbeats 12800000 in
theorem statements_any (u : Value) (ws : List Tw) (w : World) (hu : RdW w u ws) (hn : ws.length ≤ 16384) :
    Calls Tryd.prog 39 #[ u ] w fun e w' => ∃ v vals, e = .returned v ∧ OutS w.heap.size w' v (grp ws) vals ∧ Below w.heap.size w w' := by
  have HU := Lib.hid hu
  obtain ⟨A, c, rfl, hl, hk⟩ := hu
  clear hk
  obtain ⟨y0, hi, hz0, hz1, hz2⟩ := info_parts info_st
  obtain ⟨z0, hj, hy0, hy1, hy2⟩ := info_parts info_str
  have Y := Lib.hid hi
  have Y0 := Lib.hid hz0
  have Y1 := Lib.hid hz1
  have Y2 := Lib.hid hz2
  have Z := Lib.hid hj
  have Z0 := Lib.hid hy0
  have Z1 := Lib.hid hy1
  have Z2 := Lib.hid hy2
  clear hi hz0 hz1 hz2 hj hy0 hy1 hy2
  go_enter Tryd.func39, Tryd.ntmps39
  go_wp2_with fail
  go_loopw [3, 9] (fun v i wr => ∃ k : Nat, k ≤ ws.length ∧ i = .int .i64 k ∧ SoFar w wr v ((ws.take k).foldl stepS []) ∧ Below w.heap.size w wr) (fun _ i _ => ws.length - (intOf i).toNat)
  case atStart => exact ⟨0, Nat.zero_le _, rfl, .inl ⟨rfl, rfl⟩, Below.refl _ _⟩
  case round =>
    obtain ⟨k, hkl, rfl, hso, hb⟩ := hrel
    by_cases hlt : k < ws.length
    · obtain ⟨_, _, ea, _, hk⟩ := HU.out.below hb (Nat.le_refl _)
      injection ea with ea _ ec
      subst ea ec
      obtain ⟨g0, rfl, hg0, a0, a1, a2⟩ := hk k hlt
      have HF := Lib.hid (fold_succ ws hlt)
      have hcn := fold_count ws k hkl
      have hca := fold_args ws k hkl
      obtain ⟨L, hL⟩ : ∃ L, (ws.take k).foldl stepS [] = L := ⟨_, rfl⟩
      rw [hL] at HF hso hcn hca
      clear hL hk
      obtain ⟨x, hx⟩ : ∃ x, ws[k] = x := ⟨_, rfl⟩
      rw [hx] at HF a0 a1 a2
      clear hx
      have hV := heap_alloc_new wr (.cells #[.string x.t, .int .i64 x.l, .int .i64 x.c] 99)
      have hBV : Below w.heap.size w (wr.alloc (.cells #[.string x.t, .int .i64 x.l, .int .i64 x.c] 99)) := hb.alloc hb.size _
      have HBV := Lib.hid hBV
      clear hBV
      have hlV := lt_of_block hV
      have hV0 := cell_of_row _ _ 0 _ _ _ hV
      have hV1 := cell_of_row _ _ 1 _ _ _ hV
      have hbs := hb.size
      have hlV := lt_of_block hV
      have hV0 := cell_of_row _ _ 0 _ _ _ hV
      have hV1 := cell_of_row _ _ 1 _ _ _ hV
      have hbs := hb.size
      have hlV := lt_of_block hV
      have hV0 := cell_of_row _ _ 0 _ _ _ hV
      have hV1 := cell_of_row _ _ 1 _ _ _ hV
      have hbs := hb.size
      have hlV := lt_of_block hV
      have hV0 := cell_of_row _ _ 0 _ _ _ hV
      have hV1 := cell_of_row _ _ 1 _ _ _ hV
      have hbs := hb.size
      have hlV := lt_of_block hV
      have hV0 := cell_of_row _ _ 0 _ _ _ hV
      have hV1 := cell_of_row _ _ 1 _ _ _ hV
      have hbs := hb.size
      have hlV := lt_of_block hV
      have hV0 := cell_of_row _ _ 0 _ _ _ hV
      have hV1 := cell_of_row _ _ 1 _ _ _ hV
      have hbs := hb.size
      have hlV := lt_of_block hV
      have hV0 := cell_of_row _ _ 0 _ _ _ hV
      have hV1 := cell_of_row _ _ 1 _ _ _ hV
      have hbs := hb.size
      rcases hso with ⟨rfl, rfl⟩ | ⟨M, init, vi, g, vg, rfl, hacc⟩
      · rw [step_nil] at HF
        go_wp2_with fail
        generalize wr.alloc (.cells #[.string x.t, .int .i64 x.l, .int .i64 x.c] 99) = V at hV HBV hlV hV0 hV1 ⊢
        go_quiet (fail)
        have HOA := Lib.hid (World.ownsRow.alloc (World.ownsRow_nil V w.heap.size 55 3) (.cells #[.int .i64 x.l, .string x.t, .slice none 0 0] 55))
        go_wp2_with (first | (at_builtin; refine wpList_append_own _ rfl (.tmp 28) (.tmp 34) 31 rfl w.heap.size 55 y0 (.agg #[.int .i64 0, .string ⟨#[]⟩, .slice none 0 0]) 3 48 under_sts Y.out Y0.out Y1.out Y2.out rfl (by decide) _ 0 ([]) rfl HOA.out ⟨V.heap.size, 0, none⟩ 1 1 [.int .i64 x.l, .string x.t, .slice none 0 0] rfl rfl (newsS V _ _ _ _) (fun u hu => by simp at hu; rcases hu with rfl | rfl | rfl <;> rfl) (by unfold maxLen; omega) (by omega) (by simp; omega) ?_) | fail)
        intro v' w1 hown' hgrow _
        have hac := Acc.first (line := x.l) (word := x.t) hown' (by have := hgrow.size; simp at this; omega)
        have hBN : Below w.heap.size w w1 := ((bl_drewN HBV.out).alloc (bl_drewN HBV.out).size _).grown hgrow (by simp; omega) (fun j hj => by simp [Value.ownBlock] at hj)
        have HAC := Lib.hid hac
        have HBN := Lib.hid hBN
        clear hac hBN hown' hgrow
        go_wp2_with fail
        go_roundw
        case rel => exact ⟨k + 1, by omega, by go_num, .inr ⟨_, [], [], _, _, by rw [HF.out]; rfl, HAC.out⟩, HBN.out⟩
        case measure => simp [intOf]; omega
      · obtain ⟨q, cc, rfl, hq1, hq2⟩ := hacc.form
        obtain ⟨c0, c1, c2⟩ := (hacc.alloc (.cells #[.string x.t, .int .i64 x.l, .int .i64 x.c] 99)).cells
        obtain ⟨qg, kg, cg, rfl⟩ := own_slc hacc.own
        have hkg := own_count hacc.own
        subst hkg
        have HACC := Lib.hid (hacc.alloc (.cells #[.string x.t, .int .i64 x.l, .int .i64 x.c] 99))
        clear hacc
        have hll : init.length + 1 ≤ k := by simpa using hcn
        obtain ⟨n, hn⟩ : ∃ n, init.length = n := ⟨_, rfl⟩
        rw [hn] at c0 c1 c2 hll
        have hdn : decide ((n : Int) < 0) = false := decide_eq_false (by omega)
        by_cases hsame : g.line = x.l
        · rw [step_same _ _ _ hsame] at HF
          have hga : g.args.length ≤ k := hca g (by simp)
          rw [hsame] at c0
          rw [hn]
          go_wp2_with fail
          generalize wr.alloc (.cells #[.string x.t, .int .i64 x.l, .int .i64 x.c] 99) = V at hV HBV hlV hV0 hV1 HACC c0 c1 c2 ⊢
          go_quiet (fail)
          go_wp2_with fail
          subst hn
          have HP0 := Lib.hid (HACC.out.drewN (nq + 1))
          refine wp_region_held_drew (S := (fun _ => True)) (by kernel_rfl) ?_ (fun hHeld => ?_)
          focus (exact trivial)
          refine wpAnyH_take (i := 0) (v := ?_) rfl (by kernel_rfl) (by kernel_rfl) (by kernel_rfl) (fun _ _ _ h => h) (Or.inl ⟨by rfl, ?_⟩) (by assumption) ?_; rotate_left; (focus (intro w hSw; (try dsimp only at hSw); go_simp; try with_reducible rfl)); (try simp only [Act.put, List.getElem_toArray, List.getElem_cons_succ, List.getElem_cons_zero, List.setIfInBounds_toArray, List.set_cons_zero, List.set_cons_succ])
          refine wpAnyH_take (i := 1) (v := ?_) rfl (by kernel_rfl) (by kernel_rfl) (by kernel_rfl) (fun _ _ _ h => h) (Or.inl ⟨by rfl, ?_⟩) (by assumption) ?_; rotate_left; (focus (intro w hSw; (try dsimp only at hSw); go_simp; try with_reducible rfl)); (try simp only [Act.put, List.getElem_toArray, List.getElem_cons_succ, List.getElem_cons_zero, List.setIfInBounds_toArray, List.set_cons_zero, List.set_cons_succ])
          refine wpAnyH_take (i := 2) (v := ?_) rfl (by kernel_rfl) (by kernel_rfl) (by kernel_rfl) (fun _ _ _ h => h) (Or.inl ⟨by rfl, ?_⟩) (by assumption) ?_; rotate_left; (focus (intro w hSw; (try dsimp only at hSw); go_simp; try with_reducible rfl)); (try simp only [Act.put, List.getElem_toArray, List.getElem_cons_succ, List.getElem_cons_zero, List.setIfInBounds_toArray, List.set_cons_zero, List.set_cons_succ])
          refine wpAnyH_take (i := 3) (v := ?_) rfl (by kernel_rfl) (by kernel_rfl) (by kernel_rfl) (fun _ _ _ h => h) (Or.inl ⟨by rfl, ?_⟩) (by assumption) ?_; rotate_left; (focus (intro w hSw; (try dsimp only at hSw); go_simp; try with_reducible rfl)); (try simp only [Act.put, List.getElem_toArray, List.getElem_cons_succ, List.getElem_cons_zero, List.setIfInBounds_toArray, List.set_cons_zero, List.set_cons_succ])
          refine wpAnyH_take (i := 4) (v := (.pointer (some ⟨q, init.length * 3, none⟩))) rfl (by kernel_rfl) (by kernel_rfl) (by kernel_rfl) (fun _ _ _ h => h) (Or.inl ⟨by rfl, by (intro w hSw; (try dsimp only at hSw); go_simp; first | (intro hbad; exfalso; omega) | rw [if_pos (by omega)])⟩) (by assumption) ?_; (try simp only [Act.put, List.getElem_toArray, List.getElem_cons_succ, List.getElem_cons_zero, List.setIfInBounds_toArray, List.set_cons_zero, List.set_cons_succ])
          refine wpAnyH_take (i := 5) (v := ?_) rfl (by kernel_rfl) (by kernel_rfl) (by kernel_rfl) (fun _ _ _ h => h) (Or.inl ⟨by rfl, ?_⟩) (by assumption) ?_; rotate_left; (focus (intro w hSw; (try dsimp only at hSw); go_simp; try with_reducible rfl)); (try simp only [Act.put, List.getElem_toArray, List.getElem_cons_succ, List.getElem_cons_zero, List.setIfInBounds_toArray, List.set_cons_zero, List.set_cons_succ])
          refine wpAnyH_take (i := 7) (v := ?_) rfl (by kernel_rfl) (by kernel_rfl) (by kernel_rfl) (fun _ _ _ h => h) (Or.inl ⟨by rfl, ?_⟩) (by assumption) ?_; rotate_left; (focus (intro w hSw; (try dsimp only at hSw); go_simp; try with_reducible rfl)); (try simp only [Act.put, List.getElem_toArray, List.getElem_cons_succ, List.getElem_cons_zero, List.setIfInBounds_toArray, List.set_cons_zero, List.set_cons_succ])
          refine wpAnyH_ready (rs := [6, 8]) (by kernel_rfl) (by simp) (AllReadyH.cons rfl (fun K hK => ?_) (AllReadyH.cons rfl (fun K hK => ?_) (AllReadyH.nil)))
          · go_simp; refine hK.out _ _ ?_ (fun hHeld => ?_); (focus (exact trivial)); clear hK K; (try simp only [Act.put, List.getElem_toArray, List.getElem_cons_succ, List.getElem_cons_zero, List.setIfInBounds_toArray, List.set_cons_zero, List.set_cons_succ])
            refine wpAnyH_ready (rs := [8]) (by kernel_rfl) (by simp) (AllReadyH.cons rfl (fun K hK => ?_) (AllReadyH.nil))
            go_simp; refine hK.out _ _ ?_ (fun hHeld => ?_); (focus (exact trivial)); clear hK K; (try simp only [Act.put, List.getElem_toArray, List.getElem_cons_succ, List.getElem_cons_zero, List.setIfInBounds_toArray, List.set_cons_zero, List.set_cons_succ])
            refine wpAnyH_ready (rs := [9]) (by kernel_rfl) (by simp) (AllReadyH.cons rfl (fun K hK => ?_) (AllReadyH.nil))
            go_simp; refine hK.out _ _ ?_ (fun hHeld => ?_); (focus (exact trivial)); clear hK K; (try simp only [Act.put, List.getElem_toArray, List.getElem_cons_succ, List.getElem_cons_zero, List.setIfInBounds_toArray, List.set_cons_zero, List.set_cons_succ]); have HP := Lib.hid (HP0.out.alloc (.cells #[.string x.t] 9)); have c2A := HP.out.cells.2.2
            refine wpAnyH_ready (rs := [10]) (by kernel_rfl) (by simp) (AllReadyH.cons rfl (fun K hK => ?_) (AllReadyH.nil))
            rw [if_pos (by rfl)]; refine wp_append_own _ (.tmp 42) (.tmp 45) 53 rfl M 9 z0 (.string ⟨#[]⟩) 1 16 under_strs Z.out Z0.out Z1.out Z2.out rfl (by decide) _ g.args.length (g.args.map .string) rfl HP.out.own ⟨_, 0, none⟩ 1 1 [.string x.t] rfl (by rfl) (news1 _ _ _) (fun u hu => by simp at hu; subst hu; rfl) (by unfold maxLen; omega) (by omega) HP.out.high ?_; intro v' w1 hown' hgrow _; obtain ⟨q1, q2, q3, rfl⟩ := own_slc hown'; obtain ⟨hf1, ⟨u1, hc1⟩, hP1⟩ := HP.out.more hown' hgrow; refine hK.out _ _ ?_ (fun hHeld => ?_); (focus (exact trivial)); clear hK K; (try simp only [Act.put, List.getElem_toArray, List.getElem_cons_succ, List.getElem_cons_zero, List.setIfInBounds_toArray, List.set_cons_zero, List.set_cons_succ])
            refine wpAnyH_take (i := 11) (v := (.pointer (some ⟨q, init.length * 3, none⟩))) rfl (by kernel_rfl) (by kernel_rfl) (by kernel_rfl) (fun _ _ _ h => h) (Or.inl ⟨by rfl, by (intro w hSw; (try dsimp only at hSw); go_simp; first | (intro hbad; exfalso; omega) | rw [if_pos (by omega)])⟩) (by assumption) ?_; (try simp only [Act.put, List.getElem_toArray, List.getElem_cons_succ, List.getElem_cons_zero, List.setIfInBounds_toArray, List.set_cons_zero, List.set_cons_succ])
            refine wpAnyH_take (i := 12) (v := ?_) rfl (by kernel_rfl) (by kernel_rfl) (by kernel_rfl) (fun _ _ _ h => h) (Or.inl ⟨by rfl, ?_⟩) (by assumption) ?_; rotate_left; (focus (intro w hSw; (try dsimp only at hSw); go_simp; try with_reducible rfl)); (try simp only [Act.put, List.getElem_toArray, List.getElem_cons_succ, List.getElem_cons_zero, List.setIfInBounds_toArray, List.set_cons_zero, List.set_cons_succ])
            refine wpAnyH_ready (rs := [13]) (by kernel_rfl) (by simp) (AllReadyH.cons rfl (fun K hK => ?_) (AllReadyH.nil))
            go_simp; refine hK.out _ _ ?_ (fun hHeld => ?_); (focus (exact trivial)); clear hK K; (try simp only [Act.put, List.getElem_toArray, List.getElem_cons_succ, List.getElem_cons_zero, List.setIfInBounds_toArray, List.set_cons_zero, List.set_cons_succ])
            refine wpAnyH_done (by kernel_rfl) ?_ _
            have HPF := Lib.hid hP1
            have hB9 : Below w.heap.size w w1 := ((bl_drewN (n := nq + 1) HBV.out).alloc (bl_drewN (n := nq + 1) HBV.out).size _).grown hgrow (by have := HBV.out.size; simp; omega) (fun j hj => by have := (HP.out.own.lt j hj).1; have := HP.out.low; omega)
            have HB9 := Lib.hid (Below.setCell (p := ⟨q, init.length * 3 + 2, none⟩) hB9 hq1 (.slice q1 q2 q3))
            clear hP1 hB9 hown' hgrow HP HP0
            go_wp2_with fail
            go_roundw
            case rel => exact ⟨k + 1, by omega, by go_num, .inr ⟨_, _, _, _, _, by rw [HF.out], HPF.out⟩, HB9.out⟩
            case measure => simp [intOf]; omega
          · go_simp; refine hK.out _ _ ?_ (fun hHeld => ?_); (focus (exact trivial)); clear hK K; (try simp only [Act.put, List.getElem_toArray, List.getElem_cons_succ, List.getElem_cons_zero, List.setIfInBounds_toArray, List.set_cons_zero, List.set_cons_succ])
            refine wpAnyH_ready (rs := [6, 9]) (by kernel_rfl) (by simp) (AllReadyH.cons rfl (fun K hK => ?_) (AllReadyH.cons rfl (fun K hK => ?_) (AllReadyH.nil)))
            · go_simp; refine hK.out _ _ ?_ (fun hHeld => ?_); (focus (exact trivial)); clear hK K; (try simp only [Act.put, List.getElem_toArray, List.getElem_cons_succ, List.getElem_cons_zero, List.setIfInBounds_toArray, List.set_cons_zero, List.set_cons_succ])
              refine wpAnyH_ready (rs := [9]) (by kernel_rfl) (by simp) (AllReadyH.cons rfl (fun K hK => ?_) (AllReadyH.nil))
              go_simp; refine hK.out _ _ ?_ (fun hHeld => ?_); (focus (exact trivial)); clear hK K; (try simp only [Act.put, List.getElem_toArray, List.getElem_cons_succ, List.getElem_cons_zero, List.setIfInBounds_toArray, List.set_cons_zero, List.set_cons_succ]); have HP := Lib.hid (HP0.out.alloc (.cells #[.string x.t] 9)); have c2A := HP.out.cells.2.2
              refine wpAnyH_ready (rs := [10]) (by kernel_rfl) (by simp) (AllReadyH.cons rfl (fun K hK => ?_) (AllReadyH.nil))
              rw [if_pos (by rfl)]; refine wp_append_own _ (.tmp 42) (.tmp 45) 53 rfl M 9 z0 (.string ⟨#[]⟩) 1 16 under_strs Z.out Z0.out Z1.out Z2.out rfl (by decide) _ g.args.length (g.args.map .string) rfl HP.out.own ⟨_, 0, none⟩ 1 1 [.string x.t] rfl (by rfl) (news1 _ _ _) (fun u hu => by simp at hu; subst hu; rfl) (by unfold maxLen; omega) (by omega) HP.out.high ?_; intro v' w1 hown' hgrow _; obtain ⟨q1, q2, q3, rfl⟩ := own_slc hown'; obtain ⟨hf1, ⟨u1, hc1⟩, hP1⟩ := HP.out.more hown' hgrow; refine hK.out _ _ ?_ (fun hHeld => ?_); (focus (exact trivial)); clear hK K; (try simp only [Act.put, List.getElem_toArray, List.getElem_cons_succ, List.getElem_cons_zero, List.setIfInBounds_toArray, List.set_cons_zero, List.set_cons_succ])
              refine wpAnyH_take (i := 11) (v := (.pointer (some ⟨q, init.length * 3, none⟩))) rfl (by kernel_rfl) (by kernel_rfl) (by kernel_rfl) (fun _ _ _ h => h) (Or.inl ⟨by rfl, by (intro w hSw; (try dsimp only at hSw); go_simp; first | (intro hbad; exfalso; omega) | rw [if_pos (by omega)])⟩) (by assumption) ?_; (try simp only [Act.put, List.getElem_toArray, List.getElem_cons_succ, List.getElem_cons_zero, List.setIfInBounds_toArray, List.set_cons_zero, List.set_cons_succ])
              refine wpAnyH_take (i := 12) (v := ?_) rfl (by kernel_rfl) (by kernel_rfl) (by kernel_rfl) (fun _ _ _ h => h) (Or.inl ⟨by rfl, ?_⟩) (by assumption) ?_; rotate_left; (focus (intro w hSw; (try dsimp only at hSw); go_simp; try with_reducible rfl)); (try simp only [Act.put, List.getElem_toArray, List.getElem_cons_succ, List.getElem_cons_zero, List.setIfInBounds_toArray, List.set_cons_zero, List.set_cons_succ])
              refine wpAnyH_ready (rs := [13]) (by kernel_rfl) (by simp) (AllReadyH.cons rfl (fun K hK => ?_) (AllReadyH.nil))
              go_simp; refine hK.out _ _ ?_ (fun hHeld => ?_); (focus (exact trivial)); clear hK K; (try simp only [Act.put, List.getElem_toArray, List.getElem_cons_succ, List.getElem_cons_zero, List.setIfInBounds_toArray, List.set_cons_zero, List.set_cons_succ])
              refine wpAnyH_done (by kernel_rfl) ?_ _
              have HPF := Lib.hid hP1
              have hB9 : Below w.heap.size w w1 := ((bl_drewN (n := nq + 1) HBV.out).alloc (bl_drewN (n := nq + 1) HBV.out).size _).grown hgrow (by have := HBV.out.size; simp; omega) (fun j hj => by have := (HP.out.own.lt j hj).1; have := HP.out.low; omega)
              have HB9 := Lib.hid (Below.setCell (p := ⟨q, init.length * 3 + 2, none⟩) hB9 hq1 (.slice q1 q2 q3))
              clear hP1 hB9 hown' hgrow HP HP0
              go_wp2_with fail
              go_roundw
              case rel => exact ⟨k + 1, by omega, by go_num, .inr ⟨_, _, _, _, _, by rw [HF.out], HPF.out⟩, HB9.out⟩
              case measure => simp [intOf]; omega
            · go_simp; refine hK.out _ _ ?_ (fun hHeld => ?_); (focus (exact trivial)); clear hK K; (try simp only [Act.put, List.getElem_toArray, List.getElem_cons_succ, List.getElem_cons_zero, List.setIfInBounds_toArray, List.set_cons_zero, List.set_cons_succ]); have HP := Lib.hid (HP0.out.alloc (.cells #[.string x.t] 9)); have c2A := HP.out.cells.2.2
              refine wpAnyH_ready (rs := [6]) (by kernel_rfl) (by simp) (AllReadyH.cons rfl (fun K hK => ?_) (AllReadyH.nil))
              go_simp; refine hK.out _ _ ?_ (fun hHeld => ?_); (focus (exact trivial)); clear hK K; (try simp only [Act.put, List.getElem_toArray, List.getElem_cons_succ, List.getElem_cons_zero, List.setIfInBounds_toArray, List.set_cons_zero, List.set_cons_succ])
              refine wpAnyH_ready (rs := [10]) (by kernel_rfl) (by simp) (AllReadyH.cons rfl (fun K hK => ?_) (AllReadyH.nil))
              rw [if_pos (by rfl)]; refine wp_append_own _ (.tmp 42) (.tmp 45) 53 rfl M 9 z0 (.string ⟨#[]⟩) 1 16 under_strs Z.out Z0.out Z1.out Z2.out rfl (by decide) _ g.args.length (g.args.map .string) rfl HP.out.own ⟨_, 0, none⟩ 1 1 [.string x.t] rfl (by rfl) (news1 _ _ _) (fun u hu => by simp at hu; subst hu; rfl) (by unfold maxLen; omega) (by omega) HP.out.high ?_; intro v' w1 hown' hgrow _; obtain ⟨q1, q2, q3, rfl⟩ := own_slc hown'; obtain ⟨hf1, ⟨u1, hc1⟩, hP1⟩ := HP.out.more hown' hgrow; refine hK.out _ _ ?_ (fun hHeld => ?_); (focus (exact trivial)); clear hK K; (try simp only [Act.put, List.getElem_toArray, List.getElem_cons_succ, List.getElem_cons_zero, List.setIfInBounds_toArray, List.set_cons_zero, List.set_cons_succ])
              refine wpAnyH_take (i := 11) (v := (.pointer (some ⟨q, init.length * 3, none⟩))) rfl (by kernel_rfl) (by kernel_rfl) (by kernel_rfl) (fun _ _ _ h => h) (Or.inl ⟨by rfl, by (intro w hSw; (try dsimp only at hSw); go_simp; first | (intro hbad; exfalso; omega) | rw [if_pos (by omega)])⟩) (by assumption) ?_; (try simp only [Act.put, List.getElem_toArray, List.getElem_cons_succ, List.getElem_cons_zero, List.setIfInBounds_toArray, List.set_cons_zero, List.set_cons_succ])
              refine wpAnyH_take (i := 12) (v := ?_) rfl (by kernel_rfl) (by kernel_rfl) (by kernel_rfl) (fun _ _ _ h => h) (Or.inl ⟨by rfl, ?_⟩) (by assumption) ?_; rotate_left; (focus (intro w hSw; (try dsimp only at hSw); go_simp; try with_reducible rfl)); (try simp only [Act.put, List.getElem_toArray, List.getElem_cons_succ, List.getElem_cons_zero, List.setIfInBounds_toArray, List.set_cons_zero, List.set_cons_succ])
              refine wpAnyH_ready (rs := [13]) (by kernel_rfl) (by simp) (AllReadyH.cons rfl (fun K hK => ?_) (AllReadyH.nil))
              go_simp; refine hK.out _ _ ?_ (fun hHeld => ?_); (focus (exact trivial)); clear hK K; (try simp only [Act.put, List.getElem_toArray, List.getElem_cons_succ, List.getElem_cons_zero, List.setIfInBounds_toArray, List.set_cons_zero, List.set_cons_succ])
              refine wpAnyH_done (by kernel_rfl) ?_ _
              have HPF := Lib.hid hP1
              have hB9 : Below w.heap.size w w1 := ((bl_drewN (n := nq + 1) HBV.out).alloc (bl_drewN (n := nq + 1) HBV.out).size _).grown hgrow (by have := HBV.out.size; simp; omega) (fun j hj => by have := (HP.out.own.lt j hj).1; have := HP.out.low; omega)
              have HB9 := Lib.hid (Below.setCell (p := ⟨q, init.length * 3 + 2, none⟩) hB9 hq1 (.slice q1 q2 q3))
              clear hP1 hB9 hown' hgrow HP HP0
              go_wp2_with fail
              go_roundw
              case rel => exact ⟨k + 1, by omega, by go_num, .inr ⟨_, _, _, _, _, by rw [HF.out], HPF.out⟩, HB9.out⟩
              case measure => simp [intOf]; omega
        · rw [step_new _ _ _ hsame] at HF
          rw [hn]
          go_wp2_with fail
          generalize wr.alloc (.cells #[.string x.t, .int .i64 x.l, .int .i64 x.c] 99) = V at hV HBV hlV hV0 hV1 HACC c0 c1 c2 ⊢
          go_quiet (fail)
          have hrow := HACC.out.row
          rw [hn] at hrow
          have HOA := Lib.hid (World.ownsRow.alloc hrow (.cells #[.int .i64 x.l, .string x.t, .slice none 0 0] 55))
          go_wp2_with (first | (at_builtin; refine wpList_append_own _ rfl (.tmp 28) (.tmp 34) 31 rfl w.heap.size 55 y0 (.agg #[.int .i64 0, .string ⟨#[]⟩, .slice none 0 0]) 3 48 under_sts Y.out Y0.out Y1.out Y2.out rfl (by decide) _ (n + 1) (stcells init vi ++ stcell g (.slice qg g.args.length cg)) rfl HOA.out ⟨V.heap.size, 0, none⟩ 1 1 [.int .i64 x.l, .string x.t, .slice none 0 0] rfl rfl (newsS V _ _ _ _) (fun u hu => by simp at hu; rcases hu with rfl | rfl | rfl <;> rfl) (by unfold maxLen; omega) (by omega) (by simp; omega) ?_) | fail)
          intro v' w1 hown' hgrow _
          subst hn
          have hac := Acc.push (line := x.l) (word := x.t) ((HACC.out.drewN nq).alloc (.cells #[.int .i64 x.l, .string x.t, .slice none 0 0] 55)) (by rw [← List.append_assoc] at hown'; exact hown') hgrow
          have hBN : Below w.heap.size w w1 := ((bl_drewN HBV.out).alloc (bl_drewN HBV.out).size _).grown hgrow (by simp; omega) (fun j hj => by have := (hrow.lt j hj).1; omega)
          have HAC := Lib.hid hac
          have HBN := Lib.hid hBN
          clear hac hBN hown' hgrow hrow HOA
          go_wp2_with fail
          go_roundw
          case rel => exact ⟨k + 1, by omega, by go_num, .inr ⟨_, _, _, _, _, by rw [HF.out], HAC.out⟩, HBN.out⟩
          case measure => simp [intOf]; omega
    · have hke : k = ws.length := by omega
      subst hke
      rw [List.take_length, fold_grp] at hso
      have HSO := Lib.hid hso
      have HB := Lib.hid hb
      clear hso hb
      go_wp2_with fail
      go_ret
      rcases HSO.out with ⟨h1, rfl⟩ | ⟨M, init, vi, g, vg, h1, hacc⟩
      · rw [h1]
        exact ⟨_, [], rfl, OutS.nil _ _, HB.out⟩
      · rw [h1]
        exact ⟨_, _, rfl, hacc.outS, HB.out⟩
end Go.Proofs.YtnahlpeckfcciaaDoor
