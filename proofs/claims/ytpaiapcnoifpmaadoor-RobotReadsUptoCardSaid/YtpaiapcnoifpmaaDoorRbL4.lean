/- Proved: the statement RobotReads returns true, over the contracts of the developers' functions. Conditions: as each theorem states. -/
import Derived.Test.YtpaiapcnoifpmaaDoorRb14
import Derived.Test.YtpaiapcnoifpmaaDoorRb18
import Derived.Test.YtpaiapcnoifpmaaDoorSyW
import Derived.Test.YtpaiapcnoifpmaaDoorRc4
import Derived.Test.YtpaiapcnoifpmaaDoorRbA
import Derived.Deep.CutRange
namespace Go.Proofs.YtpaiapcnoifpmaaDoor
open Go.RowKit

set_option maxRecDepth 100000 in
theorem tab12r (m : Nat) (h : m < 12) : ∃ t : ByteArray, t.size ≤ 6 ∧ ∀ w, (Instr.index 44 (.agg #[.string ⟨#[97]⟩, .string ⟨#[98]⟩, .string ⟨#[119, 111, 114, 108, 100]⟩, .string ⟨#[116, 117, 114, 110, 120]⟩, .string ⟨#[115, 108, 105, 100, 101, 122]⟩, .string ⟨#[49]⟩, .string ⟨#[45, 49]⟩, .string ⟨#[48, 46, 53]⟩, .string ⟨#[49, 46, 50, 46, 51]⟩, .string ⟨#[57, 57, 57, 57, 57]⟩, .string ⟨#[49, 48, 50, 53]⟩, .string ⟨#[65]⟩]) (.int .i64 (m : Int))).run Tryd.prog w = .ok (.string t) w := by
  rcases (show m = 0 ∨ m = 1 ∨ m = 2 ∨ m = 3 ∨ m = 4 ∨ m = 5 ∨ m = 6 ∨ m = 7 ∨ m = 8 ∨ m = 9 ∨ m = 10 ∨ m = 11 by omega) with rfl | rfl | rfl | rfl | rfl | rfl | rfl | rfl | rfl | rfl | rfl | rfl
  · exact ⟨⟨#[97]⟩, by decide, fun w => by kernel_rfl⟩
  · exact ⟨⟨#[98]⟩, by decide, fun w => by kernel_rfl⟩
  · exact ⟨⟨#[119, 111, 114, 108, 100]⟩, by decide, fun w => by kernel_rfl⟩
  · exact ⟨⟨#[116, 117, 114, 110, 120]⟩, by decide, fun w => by kernel_rfl⟩
  · exact ⟨⟨#[115, 108, 105, 100, 101, 122]⟩, by decide, fun w => by kernel_rfl⟩
  · exact ⟨⟨#[49]⟩, by decide, fun w => by kernel_rfl⟩
  · exact ⟨⟨#[45, 49]⟩, by decide, fun w => by kernel_rfl⟩
  · exact ⟨⟨#[48, 46, 53]⟩, by decide, fun w => by kernel_rfl⟩
  · exact ⟨⟨#[49, 46, 50, 46, 51]⟩, by decide, fun w => by kernel_rfl⟩
  · exact ⟨⟨#[57, 57, 57, 57, 57]⟩, by decide, fun w => by kernel_rfl⟩
  · exact ⟨⟨#[49, 48, 50, 53]⟩, by decide, fun w => by kernel_rfl⟩
  · exact ⟨⟨#[65]⟩, by decide, fun w => by kernel_rfl⟩
theorem good_two {g : St} (h : GoodSt g) : 2 ≤ g.args.length := by
  obtain ⟨h1, h2⟩ := h
  generalize wordK (bts g.word) = k at h1 h2
  match k, h1, h2 with
  | 0, _, h2 => simp [argsK] at h2; omega
  | 1, _, h2 => simp [argsK] at h2; omega
  | 2, _, h2 => simp [argsK] at h2; omega
  | 3, _, h2 => simp [argsK] at h2; omega
  | 4, _, h2 => simp [argsK] at h2; omega
  | k + 5, h1, _ => simp [knownK] at h1; omega
theorem sum_mem : ∀ (l : List Nat) (x : Nat), x ∈ l → x ≤ l.sum := by
  intro l
  induction l with
  | nil => intro x hx; simp at hx
  | cons y l ih =>
    intro x hx
    rw [List.sum_cons]
    rcases List.mem_cons.1 hx with rfl | h
    · omega
    · have := ih x h; omega
theorem sum_len {α : Type} (f : α → Nat) (hf : ∀ x, 1 ≤ f x) (l : List α) : l.length ≤ (l.map f).sum := by
  induction l with
  | nil => simp
  | cons y l ih => rw [List.map_cons, List.sum_cons, List.length_cons]; have := hf y; omega
theorem fmt_parts {l : List St} {N : Nat} (h : fmtLen l ≤ N) : l.length ≤ N ∧ ∀ s ∈ l, s.args.length ≤ N ∧ ∀ a ∈ s.args, a.size ≤ N := by
  have h1 := sum_len lineLen (fun s => by unfold lineLen; omega) l
  refine ⟨Nat.le_trans h1 h, fun s hs => ?_⟩
  have h2 := sum_mem (l.map lineLen) (lineLen s) (List.mem_map.2 ⟨s, hs, rfl⟩)
  have h3 : lineLen s ≤ N := Nat.le_trans h2 h
  have h4 : argsLen s.args ≤ N := by unfold lineLen at h3; omega
  refine ⟨Nat.le_trans (sum_len _ (fun a => by omega) _) h4, fun a ha => ?_⟩
  have h5 := sum_mem (s.args.map fun a => 1 + a.size) (1 + a.size) (List.mem_map.2 ⟨a, ha, rfl⟩)
  have h6 : 1 + a.size ≤ N := Nat.le_trans h5 h4
  omega
theorem RdT.far {W : World} {g o n c g2 i : Nat} {xs : List ByteArray} {u : Value} (h : RdT W (.slice (some ⟨g, o, none⟩) n c) xs) (hne : g ≠ g2) : RdT (W.setCell ⟨g2, i, none⟩ u) (.slice (some ⟨g, o, none⟩) n c) xs := by
  obtain ⟨A, c', hv, hl, hk⟩ := h
  injection hv with e1 e2 e3
  subst e1 e2 e3
  refine ⟨_, _, rfl, hl, fun k hkl => ?_⟩
  obtain ⟨g', o', hA, hg, h0⟩ := hk k hkl
  injection hA with hA
  injection hA with e1 e2 _
  subst e1 e2
  refine ⟨_, _, rfl, by rw [Go.Deep.nblk_setCell]; exact hg, ?_⟩
  rw [World.cell?_of_block (w := W) (heap_setCell_other _ _ _ _ (by dsimp only; exact hne))]
  exact h0
theorem st_news (W : World) (s : St) (va : Value) : ∀ k u, (stcell s va)[k]? = some u → (W.alloc (.cells #[.int .i64 s.line, .string s.word, va] 43)).cell? ((⟨W.heap.size, 0, none⟩ : Addr).add k) = some u := by
  intro k u hu
  have : (⟨W.heap.size, 0, none⟩ : Addr).add k = ⟨W.heap.size, k, none⟩ := by unfold Addr.add; split <;> simp_all
  rw [this, cell_of_row _ _ _ _ _ _ (heap_alloc_new _ _)]
  simpa [stcell] using hu
theorem stcell_ones (s : St) {va : Value} (h : va.oneCell' = true) : ∀ u ∈ stcell s va, u.oneCell' = true := by
  intro u hu
  simp [stcell] at hu
  rcases hu with rfl | rfl | rfl
  · rfl
  · rfl
  · exact h
theorem RdT.grown {W V : World} {g o n c : Nat} {xs : List ByteArray} {row : Option Nat} (h : RdT W (.slice (some ⟨g, o, none⟩) n c) xs) (hg : W.grownBy V row) (hne : row ≠ some g) : RdT V (.slice (some ⟨g, o, none⟩) n c) xs := by
  obtain ⟨A, c', hv, hl, hk⟩ := h
  injection hv with e1 e2 e3
  subst e1 e2 e3
  refine ⟨_, _, rfl, hl, fun k hkl => ?_⟩
  obtain ⟨g', o', hA, hgl, h0⟩ := hk k hkl
  injection hA with hA
  injection hA with e1 e2 _
  subst e1 e2
  refine ⟨_, _, rfl, Nat.lt_of_lt_of_le hgl hg.size, ?_⟩
  rw [World.cell?_of_block (w := W) (hg.block _ hgl (fun e => hne e.symm))]
  exact h0
/-- An append whose guard says yes. -/
theorem wpList_append_own_if {P : Program} (w : World) {ops : Array Oper} {rest : List Oper} {o : Oper} {a : Act} {Q : Exit → Act → World → Prop} (hw : Region.wanted o (yielded ops a.tmps) = true) (s x : Operand) (t : TypeId)
    (ho : o.op = .call { callee := .builtin .append, args := #[s, x], argTypes := #[t, t] })
    (base : Nat) (e : TypeId) (i : TypeInfo) (z : Value) (size bytes : Nat) (ht : P.underlying t = some (.slice e)) (hi : P.info? e = some i) (hz : i.zero = some z)
    (hsize : i.size = size) (hby : i.bytes = bytes) (hzs : z.cells.size = size) (hsz : 0 < size)
    (v : Value) (n : Nat) (xs : List Value) (hs : a.eval s = v) (hown : w.ownsRow base e size v n xs)
    (ad : Addr) (m c : Nat) (news : List Value) (hx : a.eval x = .slice (some ad) m c) (hl : news.length = m * size) (hnews : ∀ j u, news[j]? = some u → w.cell? (ad.add j) = some u) (h1 : ∀ u ∈ news, u.oneCell' = true)
    (h63 : n + m ≤ maxLen) (hbytes : (n + m) * bytes ≤ 140737488355328) (hbase : base ≤ w.heap.size)
    (h : ∀ v' w', w'.ownsRow base e size v' (n + m) (xs ++ news) → w.grownBy w' v.ownBlock → (v' = .slice none 0 0 ↔ v = .slice none 0 0 ∧ m = 0) → wpList P ops Q rest (a.put o.dst v') w') : wpList P ops Q (o :: rest) a w :=
  wpList_step fun K hK => by
    rw [if_pos hw]
    exact wp_append_own w s x t ho base e i z size bytes ht hi hz hsize hby hzs hsz v n xs hs hown ad m c news hx hl hnews h1 h63 hbytes hbase fun v' w' h2 h3 h4 => hK _ _ (h v' w' h2 h3 h4)
theorem info_st8 : (Tryd.prog.info? 43).map (fun i => (i.zero, i.size, i.bytes)) = some (some (.agg #[.int .i64 0, .string ⟨#[]⟩, .slice none 0 0]), 3, 48) := by kernel_rfl
set_option linter.unusedSimpArgs false in
set_option linter.unusedVariables false in
set_option maxRecDepth 100000 in
set_option maxHeartbeats 12800000 in
theorem RobotReads_any (A0 : Option Addr) (n0 c0 : Nat) (lr : List St) (a1 : Option Addr) (n1 c1 : Nat) (p wo v : Int) (w : World) (p1 : -9223372036854775808 ≤ p) (p2 : p ≤ 9223372036854775807) (o1 : -9223372036854775808 ≤ wo) (o2 : wo ≤ 9223372036854775807) (v1 : -9223372036854775808 ≤ v) (v2 : v ≤ 9223372036854775807)
    (hu : RdS w (.slice A0 n0 c0) lr) (hf : fmtLen lr ≤ 1048576) (l0 : ListAt w a1 n1) (hT : KindT w) :
    Calls Tryd.prog 4 #[ .slice A0 n0 c0, .slice a1 n1 c1, .int .i64 p, .int .i64 wo, .int .i64 v ] w fun e w' => e = .returned (.bool true) ∧ Below w.heap.size w w' := by
  have HT := Lib.hid hT
  clear hT
  have HU := Lib.hid hu
  have HL := Lib.hid l0
  have hfp := fmt_parts hf
  have hn0 : lr.length ≤ 1000000000000 := by omega
  have HS := Lib.hid (show ∀ s ∈ lr, ∀ a ∈ s.args, a.size ≤ maxLen from fun s hs a ha => by have := (hfp.2 s hs).2 a ha; unfold maxLen; omega)
  obtain ⟨i0, hi, hz0, hz1, hz2⟩ := info_parts info_st8
  have SI := Lib.hid hi
  have SZ0 := Lib.hid hz0
  have SZ1 := Lib.hid hz1
  have SZ2 := Lib.hid hz2
  clear hi hz0 hz1 hz2
  obtain ⟨i1, hi, hz0, hz1, hz2⟩ := info_parts info_str
  have TI := Lib.hid hi
  have TZ0 := Lib.hid hz0
  have TZ1 := Lib.hid hz1
  have TZ2 := Lib.hid hz2
  clear hi hz0 hz1 hz2 hu hf l0 hfp
  go_enter Tryd.func4, Tryd.ntmps4
  go_wp2_with fail
  refine (scene_any a1 n1 c1 _ HL.out).mono ?_
  intro e w1 hsc
  obtain ⟨vj, vm, vs, vk, js, ms, ss, ks, rfl, hb1, hsm⟩ := scene_made hsc
  have SM := Lib.hid hsm
  have B1 := Lib.hid hb1
  clear hb1 hsm hsc
  go_wp2_with fail
  refine (rWriteScene_any js ms ss ks vj vm vs vk _ SM.out).mono ?_
  rintro e W ⟨v3, l, rfl, r3, hs3, hb⟩
  have B2 := Lib.hid (bl_next hb B1.out)
  have hfq := fmt_parts hs3.2.1
  have l15 := hs3.1
  have HG := Lib.hid hs3.2.2
  obtain ⟨vals, hvl, hvr, hones, hnews⟩ := r3.vals
  have R3 := Lib.hid r3
  obtain ⟨Aw, cw, rfl, hcw, hk3⟩ := r3
  obtain ⟨gw, ow, _, hAw, -⟩ := hk3 0 (by omega)
  subst hAw
  have HVL := Lib.hid hvl
  have HVR := Lib.hid hvr
  have HON := Lib.hid hones
  have HNW := Lib.hid hnews
  have HFQ := Lib.hid hfq
  have hcw1 := hcw.1
  clear hb hs3 hvl hvr hones hnews hk3 hfq SM B1 hcw
  go_wp2_with (first | (at_builtin; refine wpList_append_own _ rfl (.const (.slice none 0 0)) (.tmp 18) 33 rfl W.heap.size 43 i0 (.agg #[.int .i64 0, .string ⟨#[]⟩, .slice none 0 0]) 3 48 under_sts SI.out SZ0.out SZ1.out SZ2.out rfl (by decide) _ 0 [] rfl (World.ownsRow_nil _ _ _ _) ⟨gw, ow, none⟩ l.length cw (stcells l vals) rfl (by rw [stcells_len HVL.out]) (HNW.out _ _ _ rfl) (stcells_ones HON.out) (by unfold maxLen; omega) (by omega) (Nat.le_refl _) ?_))
  intro vx w3 hown hgrow _
  obtain ⟨gx, cx, rfl⟩ := own_form hown (by omega)
  have HOX := Lib.hid hown
  have B3 := Lib.hid (show Below W.heap.size W w3 from (Below.refl _ W).grown hgrow (Nat.le_refl _) (fun k hk => by cases hk))
  clear hown hgrow
  go_wp2_with fail
  refine (Round_any p l.length _ (by omega) (by omega) p1 p2).mono ?_
  rintro e w4 ⟨rfl, rfl⟩
  have q0 := Int.emod_nonneg p (show (l.length : Int) ≠ 0 by omega)
  have q1 := Int.emod_lt_of_pos p (show (0 : Int) < l.length by omega)
  obtain ⟨k, hk⟩ : ∃ k : Nat, p % (l.length : Int) = k := ⟨(p % (l.length : Int)).toNat, by omega⟩
  rw [hk] at q0 q1 ⊢
  have hkl : k < l.length := by omega
  clear q0 q1 hk
  obtain ⟨va, hva⟩ : ∃ va, vals.getD k undef = va := ⟨_, rfl⟩
  have hra := HVR.out k hkl
  have cva : w3.cell? ⟨gx, k * 3 + 2, none⟩ = some va := by rw [HOX.out.cellAt (k * 3 + 2) (by omega), (stcells_at HVL.out k hkl).2.2, hva]
  rw [hva] at hra
  have h2 := good_two (HG.out l[k] (List.getElem_mem hkl)).1
  have hsa := HFQ.out.2 l[k] (List.getElem_mem hkl)
  obtain ⟨ar, har⟩ : ∃ ar, l[k].args = ar := ⟨_, rfl⟩
  rw [har] at hra h2 hsa
  have HAR := Lib.hid har
  have HRA := Lib.hid hra
  obtain ⟨Aa, ca, rfl, hca, hka⟩ := hra
  obtain ⟨ga, oa, hAa, -⟩ := hka 0 (by omega)
  subst hAa
  have HSA := Lib.hid hsa.2
  have hal := hsa.1
  clear hka har hva hsa
  have RA3 := Lib.hid (HRA.out.below B3.out (Nat.le_refl _))
  have hsz3 := B3.out.size
  go_wp2_with (first | (at_builtin; refine wpList_append_own _ rfl (.const (.slice none 0 0)) (.tmp 28) 41 rfl W.heap.size 9 i1 (.string ⟨#[]⟩) 1 16 under_strs TI.out TZ0.out TZ1.out TZ2.out rfl (by decide) _ 0 [] rfl (World.ownsRow_nil _ _ _ _) ⟨ga, oa, none⟩ ar.length ca (ar.map .string) rfl (by simp) (rdT_news RA3.out) (ones_str _) (by unfold maxLen; omega) (by omega) hsz3 ?_))
  intro va2 w4 howna hgrow2 _
  obtain ⟨gn, cn, rfl⟩ := own_form howna (by omega)
  have B4 := Lib.hid (B3.out.grown hgrow2 hsz3 (fun k hk => by cases hk))
  have HOX4 := Lib.hid (own_below HOX.out ((Below.refl _ w3).grown hgrow2 (Nat.le_refl _) (fun k hk => by cases hk)))
  have HOA4 := Lib.hid howna
  clear howna hgrow2 cva HOX RA3
  go_wp2_with fail
  refine (Round_any wo ar.length _ (by omega) (by omega) o1 o2).mono ?_
  rintro e w5 ⟨rfl, rfl⟩
  have q0 := Int.emod_nonneg wo (show (ar.length : Int) ≠ 0 by omega)
  have q1 := Int.emod_lt_of_pos wo (show (0 : Int) < ar.length by omega)
  obtain ⟨j, hj⟩ : ∃ j : Nat, wo % (ar.length : Int) = j := ⟨(wo % (ar.length : Int)).toNat, by omega⟩
  rw [hj] at q0 q1 ⊢
  have hjl : j < ar.length := by omega
  clear q0 q1 hj
  go_wp2_with fail
  refine (Round_any v 12 _ (by omega) (by omega) v1 v2).mono ?_
  rintro e w5 ⟨rfl, rfl⟩
  have q0 := Int.emod_nonneg v (show (12 : Int) ≠ 0 by omega)
  have q1 := Int.emod_lt_of_pos v (show (0 : Int) < 12 by omega)
  obtain ⟨m, hm⟩ : ∃ m : Nat, v % 12 = m := ⟨(v % 12).toNat, by omega⟩
  rw [hm] at q0 q1 ⊢
  obtain ⟨tx, htx, hix⟩ := tab12r m (by omega)
  clear q0 q1 hm
  have ej : w4.cell? ⟨gn, j, none⟩ = some (.string ar[j]) := by rw [HOA4.out.cellAt j (by omega)]; simp [hjl]
  have fj := HOA4.out.frozenAt j
  go_wp2_with fail
  obtain ⟨w5, hw5⟩ : ∃ x, w4.setCell ⟨gn, j, none⟩ (.string tx) = x := ⟨_, rfl⟩
  rw [hw5]
  have hxn : gx ≠ gn := fun e => (own_apart HOX4.out HOA4.out (by decide)).elim (fun h => by cases h) (fun h => h (by rw [e]; rfl))
  have HOA5 := Lib.hid (show w5.ownsRow W.heap.size 9 1 (.slice (some ⟨gn, 0, none⟩) ar.length cn) ar.length ((ar.set j tx).map .string) by rw [← hw5, List.map_set]; exact (HOA4.out.stored j (.string tx)).1)
  have HOX5 := Lib.hid (show w5.ownsRow W.heap.size 43 3 (.slice (some ⟨gx, 0, none⟩) l.length cx) l.length (stcells l vals) by rw [← hw5]; exact ownsRow_setCell_other HOX4.out (a := ⟨gn, j, none⟩) (fun e => hxn (by injection e)) _)
  have B5 := Lib.hid (show Below W.heap.size W w5 by rw [← hw5]; exact B4.out.setCell (HOA4.out.lt gn rfl).1 _)
  clear ej fj hix HOA4 HOX4 B4 hw5
  have RA5 := Lib.hid ((show OwnT W.heap.size w5 (.slice (some ⟨gn, 0, none⟩) ar.length cn) (ar.set j tx) by unfold OwnT; rw [List.length_set]; exact HOA5.out).rd (by rw [List.length_set]; omega))
  have HSX := Lib.hid (show ∀ a ∈ ar.set j tx, a.size ≤ 8000 from fun a ha => (List.mem_or_eq_of_mem_set ha).elim (HSA.out a) (fun e => by rw [e]; omega))
  have hcn : ar.length ≤ cn := by obtain ⟨_, _, e, h, _⟩ := RA5.out; injection e with _ _ e3; rw [List.length_set] at h; omega
  have hd : -9223372036854775808 ≤ v.tdiv 12 ∧ v.tdiv 12 ≤ 9223372036854775807 := by
    rcases Int.le_total 0 v with h | h
    · rw [Int.tdiv_eq_ediv_of_nonneg h]; omega
    · rw [show v = -(-v) by omega, Int.neg_tdiv, Int.tdiv_eq_ediv_of_nonneg (by omega)]; omega
  refine (Round_any (v.tdiv 12) 7 _ (by omega) (by omega) hd.1 hd.2).mono ?_
  rintro e w6 ⟨rfl, rfl⟩
  obtain ⟨r7, hr7⟩ : ∃ x, v.tdiv 12 % 7 = x := ⟨_, rfl⟩
  rw [hr7]
  clear hr7 hd
  go_upto_if 43 with fail
  go_cut [14] from 15 to 79 (fun v14 wx => wx = w5 ∧ ∃ n2 c2 ar2, v14 = .slice (some ⟨gn, 0, none⟩) n2 c2 ∧ RdT w5 v14 ar2 ∧ ∀ a ∈ ar2, a.size ≤ 8000)
  case first =>
    by_cases h7 : r7 = 0
    · have hq : ((r7 : Int) == 0) = true := by rw [h7]; rfl
      clear h7
      go_wp2_with fail
      go_meet
      refine ⟨rfl, ar.length - 1, cn, ((ar.set j tx).drop 0).take (ar.length - 1), rfl, RA5.out.rest 0 (ar.length - 1) cn (by rw [List.length_set]; omega) (by omega), fun a ha => HSX.out a ?_⟩
      rw [List.drop_zero] at ha
      exact List.mem_of_mem_take ha
    · have hq : ((r7 : Int) == 0) = false := by rw [beq_eq_false_iff_ne]; exact h7
      clear h7
      go_wp2_with fail
      go_meet
      exact ⟨rfl, ar.length, cn, ar.set j tx, rfl, RA5.out, HSX.out⟩
  case rest =>
    obtain ⟨hwc, n2, c2, ar2, rfl, hr14, hs14⟩ := hcut
    rw [hwc]
    clear hwc
    have R14 := Lib.hid hr14
    have HS14 := Lib.hid hs14
    clear hr14 hs14 RA5 HOA5 HSX
    obtain ⟨vz, hvz⟩ : ∃ vz, vals.getD k undef = vz := ⟨_, rfl⟩
    have cz : w5.cell? ⟨gx, k * 3 + 2, none⟩ = some vz := by rw [HOX5.out.cellAt (k * 3 + 2) (by omega), (stcells_at HVL.out k hkl).2.2, hvz]
    have fz := HOX5.out.frozenAt (k * 3 + 2)
    clear hvz
    go_wp2_with fail
    obtain ⟨w6, hw6⟩ : ∃ x, w5.setCell ⟨gx, k * 3 + 2, none⟩ (.slice (some ⟨gn, 0, none⟩) n2 c2) = x := ⟨_, rfl⟩
    rw [hw6]
    have B6 := Lib.hid (show Below W.heap.size W w6 by rw [← hw6]; exact B5.out.setCell (HOX5.out.lt gx rfl).1 _)
    obtain ⟨L2, hL2⟩ : ∃ L2, l.set k { l[k] with args := ar2 } = L2 := ⟨_, rfl⟩
    obtain ⟨V2, hV2⟩ : ∃ V2, vals.set k (.slice (some ⟨gn, 0, none⟩) n2 c2) = V2 := ⟨_, rfl⟩
    have hlen2 : L2.length = l.length := by rw [← hL2, List.length_set]
    have hvl2 : V2.length = L2.length := by rw [hlen2, ← hV2, List.length_set]; exact HVL.out
    have HOX6 := Lib.hid (show w6.ownsRow W.heap.size 43 3 (.slice (some ⟨gx, 0, none⟩) l.length cx) L2.length (stcells L2 V2) by rw [hlen2, ← hw6, ← hL2, ← hV2, stcells_set l vals k HVL.out hkl]; exact (HOX5.out.stored (k * 3 + 2) _).1)
    have hr2 : ∀ (i : Nat) (h : i < L2.length), RdT w6 (V2.getD i undef) L2[i].args := by
      intro i hi
      subst hL2 hV2
      have hil : i < l.length := by omega
      by_cases e : i = k
      · subst e
        have e1 : (vals.set i (Value.slice (some ⟨gn, 0, none⟩) n2 c2)).getD i undef = .slice (some ⟨gn, 0, none⟩) n2 c2 := by rw [List.getD_eq_getElem?_getD, List.getElem?_set_self (by have := HVL.out; omega)]; rfl
        rw [e1, List.getElem_set_self, ← hw6]
        exact R14.out.far (fun e => hxn e.symm)
      · have e1 : (vals.set k (Value.slice (some ⟨gn, 0, none⟩) n2 c2)).getD i undef = vals.getD i undef := by rw [List.getD_eq_getElem?_getD, List.getElem?_set_ne (fun h => e h.symm), ← List.getD_eq_getElem?_getD]
        rw [e1, List.getElem_set_ne (fun h => e h.symm)]
        exact (HVR.out i hil).below B6.out (Nat.le_refl _)
    have HSL := Lib.hid (show ∀ s ∈ L2, ∀ a ∈ s.args, a.size ≤ maxLen by
      intro s hs a ha
      rw [← hL2] at hs
      rcases List.mem_or_eq_of_mem_set hs with h | h
      · have := (HFQ.out.2 s h).2 a ha; unfold maxLen; omega
      · subst h; have := HS14.out a ha; unfold maxLen; omega)
    have RX6 := Lib.hid (rdS_own hvl2 HOX6.out hr2 (by omega))
    have HR2 := Lib.hid hr2
    have HV2 := Lib.hid hvl2
    have hl2 := Lib.hid hlen2
    have l16 : L2.length ≤ 15 := by omega
    have HLE := Lib.hid hL2
    have HVE := Lib.hid hV2
    have R6 := Lib.hid (show RdT w6 (.slice (some ⟨gn, 0, none⟩) n2 c2) ar2 by rw [← hw6]; exact R14.out.far (fun e => hxn e.symm))
    clear hr2 hvl2 hlen2 hL2 hV2 hw6 B5 HOX5 R14 cz fz
    have HSW := Lib.hid (show ∀ s ∈ l, ∀ a ∈ s.args, a.size ≤ maxLen from fun s hs a ha => by have := (HFQ.out.2 s hs).2 a ha; unfold maxLen; omega)
    refine (awake8_any _ (HT.out.next (bl_next B6.out B2.out))).mono ?_
    rintro e u1 ⟨rfl, k1⟩
    go_wp2_with fail
    have K1 := Lib.hid (bl_next k1 (Below.refl _ w6))
    have D1 := Lib.hid (B6.out.trans (K1.out.mono B6.out.size))
    clear k1
    refine (reads8_any _ lr _ (HT.out.next (bl_next D1.out B2.out)) (HU.out.below (bl_next D1.out B2.out) (Nat.le_refl _)) HS.out hn0).mono ?_
    rintro e u2 ⟨rfl, k2⟩
    go_wp2_with fail
    have K2 := Lib.hid (bl_next k2 K1.out)
    have D2 := Lib.hid (B6.out.trans (K2.out.mono B6.out.size))
    clear k2 K1 D1
    refine (reads8_any _ l _ (HT.out.next (bl_next D2.out B2.out)) (R3.out.below D2.out (Nat.le_refl _)) HSW.out (by omega)).mono ?_
    rintro e u3 ⟨rfl, k3⟩
    go_wp2_with fail
    have K3 := Lib.hid (bl_next k3 K2.out)
    have D3 := Lib.hid (B6.out.trans (K3.out.mono B6.out.size))
    clear k3 K2 D2
    refine (reads8_any _ L2 _ (HT.out.next (bl_next D3.out B2.out)) (RX6.out.below K3.out (Nat.le_refl _)) HSL.out (by omega)).mono ?_
    rintro e u4 ⟨rfl, k4⟩
    have K4 := Lib.hid (bl_next k4 K3.out)
    have D4 := Lib.hid (B6.out.trans (K4.out.mono B6.out.size))
    clear k4 K3 D3
    go_wp2_with fail
    refine (Round_any wo l.length _ (by omega) (by omega) o1 o2).mono ?_
    rintro e u5 ⟨rfl, rfl⟩
    have q0 := Int.emod_nonneg wo (show (l.length : Int) ≠ 0 by omega)
    have q1 := Int.emod_lt_of_pos wo (show (0 : Int) < l.length by omega)
    obtain ⟨kk, hkk⟩ : ∃ j : Nat, wo % (l.length : Int) = j := ⟨(wo % (l.length : Int)).toNat, by omega⟩
    rw [hkk] at q0 q1 ⊢
    have hkkl : kk < l.length := by omega
    clear q0 q1 hkk
    obtain ⟨_, _, ea, _, hat⟩ := R3.out
    injection ea with ea _ ec
    obtain ⟨g5, o5, v5, hA5, hg5, d0, d1, d2, b3⟩ := hat kk hkkl
    have b0 := (D4.out.cell (p := ⟨g5, o5 + kk * 3, none⟩) hg5).trans d0
    have b1 := (D4.out.cell (p := ⟨g5, o5 + kk * 3 + 1, none⟩) hg5).trans d1
    have b2 := (D4.out.cell (p := ⟨g5, o5 + kk * 3 + 2, none⟩) hg5).trans d2
    have hg5 : g5 < u4.heap.size := Nat.lt_of_lt_of_le hg5 D4.out.size
    clear d0 d1 d2
    rw [← ea] at hA5
    injection hA5 with hA5
    injection hA5 with e5 e6 _
    subst e5 e6
    obtain ⟨s5, hs5⟩ : ∃ s, l[kk] = s := ⟨_, rfl⟩
    have hsz5 := HSW.out l[kk] (List.getElem_mem hkkl)
    rw [hs5] at b0 b1 b3 hsz5
    obtain ⟨A5, c5, hv5, _, _⟩ := id b3
    obtain ⟨n5, hn5⟩ : ∃ n, s5.args.length = n := ⟨_, rfl⟩
    rw [hn5] at hv5
    subst hv5
    have RB5 := Lib.hid b3
    have HSZ5 := Lib.hid hsz5
    clear b3 hat ea ec hs5 hn5 hsz5
    have KA := Lib.hid (bl_alloc (Below.refl _ u4) (.cells #[.int .i64 s5.line, .string s5.word, .slice A5 n5 c5] 43))
    have HOX8 := Lib.hid (own_below (own_below HOX6.out K4.out) KA.out)
    have hszu : W.heap.size ≤ u4.heap.size := D4.out.size
    go_wp2_with (first | (refine wpList_append_own_if _ (by rfl) (.tmp 68) (.tmp 76) 33 rfl W.heap.size 43 i0 (.agg #[.int .i64 0, .string ⟨#[]⟩, .slice none 0 0]) 3 48 under_sts SI.out SZ0.out SZ1.out SZ2.out rfl (by decide) _ L2.length (stcells L2 V2) rfl HOX8.out ⟨_, 0, none⟩ 1 1 (stcell s5 (.slice A5 n5 c5)) rfl (by rfl) (st_news u4 s5 (.slice A5 n5 c5)) (stcell_ones s5 (by cases A5 <;> rfl)) (by unfold maxLen; omega) (by omega) (by have := KA.out.size; omega) ?_))
    intro v9 w9 hown9 hgrow9 _
    obtain ⟨g9, c9, rfl⟩ := own_form hown9 (by omega)
    have B9 := Lib.hid ((bl_alloc D4.out (.cells #[.int .i64 s5.line, .string s5.word, .slice A5 n5 c5] 43)).grown hgrow9 (by simp; omega) (fun j hj => (HOX8.out.lt j hj).1))
    have R9 := Lib.hid (((R6.out.below K4.out (Nat.le_refl _)).below KA.out (Nat.le_refl _)).grown hgrow9 (fun e => hxn (by injection e)))
    have hr9 : ∀ (i : Nat) (h : i < (L2 ++ [s5]).length), RdT w9 ((V2 ++ [Value.slice A5 n5 c5]).getD i undef) (L2 ++ [s5])[i].args := by
      intro i hi
      rcases Nat.lt_or_ge i L2.length with hlt | hge
      · rw [List.getElem_append_left hlt, List.getD_eq_getElem?_getD, List.getElem?_append_left (by have := HV2.out; omega), ← List.getD_eq_getElem?_getD]
        have e1 := HLE.out
        have e2 := HVE.out
        subst e1 e2
        have hil : i < l.length := by rw [List.length_set] at hlt; exact hlt
        by_cases e : i = k
        · subst e
          have e1 : (vals.set i (Value.slice (some ⟨gn, 0, none⟩) n2 c2)).getD i undef = .slice (some ⟨gn, 0, none⟩) n2 c2 := by rw [List.getD_eq_getElem?_getD, List.getElem?_set_self (by have := HVL.out; omega)]; rfl
          rw [e1, List.getElem_set_self]
          exact R9.out
        · have e1 : (vals.set k (Value.slice (some ⟨gn, 0, none⟩) n2 c2)).getD i undef = vals.getD i undef := by rw [List.getD_eq_getElem?_getD, List.getElem?_set_ne (fun h => e h.symm), ← List.getD_eq_getElem?_getD]
          rw [e1, List.getElem_set_ne (fun h => e h.symm)]
          exact (HVR.out i hil).below B9.out (Nat.le_refl _)
      · have e : i = L2.length := by simp at hi; omega
        subst e
        have e1 : (V2 ++ [Value.slice A5 n5 c5]).getD L2.length undef = .slice A5 n5 c5 := by rw [List.getD_eq_getElem?_getD, List.getElem?_append_right (by have := HV2.out; omega), HV2.out, Nat.sub_self]; rfl
        rw [e1, List.getElem_append_right (Nat.le_refl _)]
        simpa using RB5.out.below B9.out (Nat.le_refl _)
    have RX9 := Lib.hid (rdS_own (l := L2 ++ [s5]) (vs := V2 ++ [Value.slice A5 n5 c5]) (by have := HV2.out; simp; omega) (by rw [stcells_snoc HV2.out, List.length_append]; exact hown9) hr9 (by simp; omega))
    have HS9 := Lib.hid (show ∀ s ∈ L2 ++ [s5], ∀ a ∈ s.args, a.size ≤ maxLen from fun s hs => (List.mem_append.1 hs).elim (HSL.out s) (fun h => by rw [List.mem_singleton.1 h]; exact HSZ5.out))
    clear hr9 hown9 hgrow9
    go_wp2_with fail
    refine (reads8_any _ (L2 ++ [s5]) _ (HT.out.next (bl_next B9.out B2.out)) RX9.out HS9.out (by simp; omega)).mono ?_
    rintro e u9 ⟨rfl, k9⟩
    have D9 := Lib.hid (bl_next (B9.out.trans ((k9).mono B9.out.size)) B2.out)
    go_wp2_with fail
    go_ret
    refine ⟨by simp, D9.out⟩
end Go.Proofs.YtpaiapcnoifpmaaDoor
