/- Proved: the reference's Parse returns what parseS in Sy2 computes, in memory of its own, and turns nothing that was there before. Conditions: as each theorem states. -/
import Derived.Test.YtnahlpeckfcciaaDoorSy3
import Derived.Test.YtnahlpeckfcciaaDoorOwn
import Derived.Deep.CutBlock
import Derived.Deep.RegionHeld3
namespace Go.Proofs.YtnahlpeckfcciaaDoor
open Go.RowKit

def stcell (g : St) (va : Value) : List Value := [.int .i64 g.line, .string g.word, va]
def stcells : List St → List Value → List Value
  | g :: gs, va :: vs => stcell g va ++ stcells gs vs
  | _, _ => []
theorem stcells_snoc {l : List St} {vs : List Value} (h : vs.length = l.length) (g : St) (va : Value) : stcells (l ++ [g]) (vs ++ [va]) = stcells l vs ++ stcell g va := by
  induction l generalizing vs with
  | nil => cases vs with
    | nil => simp [stcells]
    | cons x vs => simp at h
  | cons y l ih => cases vs with
    | nil => simp at h
    | cons x vs => simp only [List.cons_append, stcells]; rw [ih (by simpa using h), List.append_assoc]
theorem stcells_at {l : List St} {vs : List Value} (h : vs.length = l.length) : ∀ (k : Nat) (hk : k < l.length), (stcells l vs)[k * 3]? = some (.int .i64 l[k].line) ∧ (stcells l vs)[k * 3 + 1]? = some (.string l[k].word) ∧ (stcells l vs)[k * 3 + 2]? = some (vs.getD k undef) := by
  induction l generalizing vs with
  | nil => intro k hk; exact absurd hk (by simp)
  | cons y l ih =>
    intro k hk
    cases vs with
    | nil => simp at h
    | cons x vs =>
      match k with
      | 0 => simp [stcells, stcell]
      | k + 1 =>
        have h' := ih (vs := vs) (by simpa using h) k (by simpa using hk)
        have hl : (stcell y x).length = 3 := rfl
        rw [stcells, List.getElem?_append_right (by omega), List.getElem?_append_right (by omega), List.getElem?_append_right (by omega), hl]
        rw [show (k + 1) * 3 - 3 = k * 3 by omega, show (k + 1) * 3 + 1 - 3 = k * 3 + 1 by omega, show (k + 1) * 3 + 2 - 3 = k * 3 + 2 by omega]
        simpa using h'
/-- A slice of texts that the call owns. -/
def OwnT (B : Nat) (W : World) (v : Value) (xs : List ByteArray) : Prop := W.ownsRow B 9 1 v xs.length (xs.map .string)
/-- A slice of statements that the call owns, and their arguments. -/
def OutS (B : Nat) (W : World) (v : Value) (l : List St) (vals : List Value) : Prop := vals.length = l.length ∧ W.ownsRow B 55 3 v l.length (stcells l vals) ∧ ∀ (k : Nat) (h : k < l.length), OwnT B W (vals.getD k undef) l[k].args
theorem OutS.nil (B : Nat) (W : World) : OutS B W (.slice none 0 0) [] [] := ⟨rfl, World.ownsRow_nil _ _ _ _, fun k h => absurd h (by simp)⟩
theorem OwnT.next {B : Nat} {W V : World} {v : Value} {xs : List ByteArray} (h : OwnT B W v xs) (hB : Below W.heap.size W V) : OwnT B V v xs := own_below h hB
theorem OutS.next {B : Nat} {W V : World} {v : Value} {l : List St} {vals : List Value} (h : OutS B W v l vals) (hB : Below W.heap.size W V) : OutS B V v l vals :=
  ⟨h.1, own_below h.2.1 hB, fun k hk => (h.2.2 k hk).next hB⟩
theorem OwnT.rd {B : Nat} {W : World} {v : Value} {xs : List ByteArray} (h : OwnT B W v xs) (hl : xs.length ≤ 8796093022208) : RdT W v xs := by
  have h' : W.ownsRow B 9 1 v xs.length (xs.map .string) := h
  rcases h'.2 with ⟨hv, hn⟩ | ⟨g, cap, cur, hv, hbg, hcur, h1, h2, h3, h4⟩
  · exact ⟨none, 0, by rw [hv, hn], hl, fun k hk => by omega⟩
  · refine ⟨some ⟨g, 0, none⟩, cap, hv, hl, fun k hk => ⟨g, 0, rfl, lt_of_block hcur, ?_⟩⟩
    subst hv
    rw [Nat.zero_add, h'.cellAt k (by omega)]
    simp [hk]
theorem OutS.rd {B : Nat} {W : World} {v : Value} {l : List St} {vals : List Value} (h : OutS B W v l vals) (hl : l.length ≤ 8796093022208) (ha : ∀ g ∈ l, g.args.length ≤ 8796093022208) : RdS W v l := by
  obtain ⟨hvl, hown, hrows⟩ := h
  rcases hown.2 with ⟨hv, hn⟩ | ⟨g, cap, cur, hv, hbg, hcur, h1, h2, h3, h4⟩
  · exact ⟨none, 0, by rw [hv, hn], ⟨by omega, hl⟩, fun k hk => by omega⟩
  · refine ⟨some ⟨g, 0, none⟩, cap, hv, ⟨h1, hl⟩, fun k hk => ?_⟩
    subst hv
    obtain ⟨c0, c1, c2⟩ := stcells_at hvl k hk
    refine ⟨g, 0, vals.getD k undef, rfl, lt_of_block hcur, ?_, ?_, ?_, (hrows k hk).rd (ha _ (List.getElem_mem _))⟩
    · rw [Nat.zero_add, hown.cellAt (k * 3) (by omega), c0]
    · rw [Nat.zero_add, hown.cellAt (k * 3 + 1) (by omega), c1]
    · rw [Nat.zero_add, hown.cellAt (k * 3 + 2) (by omega), c2]
/-- One statement more. -/
theorem OutS.push {B : Nat} {W w1 : World} {v v' va : Value} {l : List St} {vals : List Value} {g : St} {o : Obj} (h : OutS B W v l vals) (hva : OwnT B W va g.args) (hown : w1.ownsRow B 55 3 v' (l.length + 1) (stcells l vals ++ stcell g va)) (hg : (W.alloc o).grownBy w1 v.ownBlock) :
    OutS B w1 v' (l ++ [g]) (vals ++ [va]) := by
  obtain ⟨h1, h2, h3⟩ := h
  refine ⟨by simp [h1], by rw [stcells_snoc h1, List.length_append]; exact hown, fun k hk => ?_⟩
  have kp : ∀ {u : Value} {xs : List ByteArray}, OwnT B W u xs → OwnT B w1 u xs := fun {u xs} hu => by
    have hu' : W.ownsRow B 9 1 u xs.length (xs.map .string) := hu
    exact (hu'.alloc o).kept hg (own_apart hu' h2 (by decide))
  rcases Nat.lt_or_ge k l.length with hlt | hge
  · rw [List.getElem_append_left hlt, List.getD_eq_getElem?_getD, List.getElem?_append_left (by omega), ← List.getD_eq_getElem?_getD]
    exact kp (h3 k hlt)
  · have e : k = l.length := by simp at hk; omega
    subst e
    have : (vals ++ [va]).getD l.length undef = va := by rw [List.getD_eq_getElem?_getD, List.getElem?_append_right (by omega), h1, Nat.sub_self]; rfl
    rw [this]
    simpa using kp hva
/-- What Parse leaves. -/
def PaP (s : ByteArray) (W : World) (e : Ending) (w' : World) : Prop := ∃ v : Value, e = .returned (.tuple #[v, .agg #[.int .i64 (parseS s).err, .int .i64 (parseS s).ln]]) ∧ RdS w' v (parseS s).sts ∧ Below W.heap.size W w'
/-- A statement that is being made: its block, and the texts so far. -/
structure In (wr W : World) (line : Int) (word : ByteArray) (va : Value) (ys : List ByteArray) : Prop where
  blk : W.heap[wr.heap.size]? = some (.cells #[.int .i64 line, .string word, va] 55 (0, 0))
  own : OwnT (wr.heap.size + 1) W va ys
  bel : Below wr.heap.size wr W
section
variable {wr W : World} {line : Int} {word : ByteArray} {va : Value} {ys : List ByteArray}
theorem In.c0 (h : In wr W line word va ys) : W.cell? ⟨wr.heap.size, 0, none⟩ = some (.int .i64 line) := cell_of_row W _ 0 _ _ _ h.blk
theorem In.c1 (h : In wr W line word va ys) : W.cell? ⟨wr.heap.size, 1, none⟩ = some (.string word) := cell_of_row W _ 1 _ _ _ h.blk
theorem In.c2 (h : In wr W line word va ys) : W.cell? ⟨wr.heap.size, 2, none⟩ = some va := cell_of_row W _ 2 _ _ _ h.blk
theorem In.fr (h : In wr W line word va ys) (k : Nat) : W.frozen? ⟨wr.heap.size, k, none⟩ = false := frozen_of_row W _ k _ _ h.blk
theorem In.lt (h : In wr W line word va ys) : wr.heap.size < W.heap.size := lt_of_block h.blk
theorem In.lt1 (h : In wr W line word va ys) : wr.heap.size + 1 ≤ W.heap.size := h.lt
theorem In.drew (h : In wr W line word va ys) : In wr W.drew line word va ys := ⟨h.blk, h.own, h.bel.drew⟩
theorem In.drewN (h : In wr W line word va ys) (n : Nat) : In wr (W.drewN n) line word va ys := ⟨h.blk, h.own, ⟨h.bel.os, h.bel.tape, h.bel.output, h.bel.size, h.bel.block⟩⟩
theorem In.alloc (h : In wr W line word va ys) (o : Obj) : In wr (W.alloc o) line word va ys :=
  ⟨(Below.heap_alloc _ _ _ h.lt).trans h.blk, World.ownsRow.alloc h.own o, h.bel.alloc h.bel.size o⟩
theorem In.pushed (h : In wr W line word va ys) {w1 : World} {v' : Value} {y : ByteArray} (hown : w1.ownsRow (wr.heap.size + 1) 9 1 v' (ys.length + 1) (ys.map .string ++ [.string y])) (hg : W.grownBy w1 va.ownBlock) :
    w1.heap[wr.heap.size]? = some (.cells #[.int .i64 line, .string word, va] 55 (0, 0)) ∧ In wr (w1.setCell ⟨wr.heap.size, 2, none⟩ v') line word v' (ys ++ [y]) := by
  have hr : ∀ k, va.ownBlock = some k → wr.heap.size + 1 ≤ k := fun k hk => (World.ownsRow.lt h.own k hk).1
  have b1 : w1.heap[wr.heap.size]? = some (.cells #[.int .i64 line, .string word, va] 55 (0, 0)) := (hg.block _ h.lt (fun e => by have := hr _ e.symm; omega)).trans h.blk
  refine ⟨b1, heap_setCell_same w1 _ 2 _ _ v' b1, ?_, ?_⟩
  · have := ownsRow_setCell_below (a := ⟨wr.heap.size, 2, none⟩) hown (by show wr.heap.size < wr.heap.size + 1; omega) v'
    unfold OwnT
    rw [List.length_append, List.map_append]
    exact this
  · exact Below.setCell (h.bel.grown hg h.bel.size (fun k hk => by have := hr k hk; omega)) (Nat.le_refl _) _
end
theorem In.start {wr V : World} {line : Int} {word : ByteArray} (hV : Below wr.heap.size wr V) (hb : V.heap[wr.heap.size]? = some (.cells #[.int .i64 line, .string word, .slice none 0 0] 55 (0, 0))) : In wr V line word (.slice none 0 0) [] :=
  ⟨hb, World.ownsRow_nil _ _ _ _, hV⟩
theorem info_str : (Tryd.prog.info? 9).map (fun i => (i.zero, i.size, i.bytes)) = some (some (.string ⟨#[]⟩), 1, 16) := by kernel_rfl
theorem under_strs : Tryd.prog.underlying 53 = some (.slice 9) := by kernel_rfl
theorem info_st : (Tryd.prog.info? 55).map (fun i => (i.zero, i.size, i.bytes)) = some (some (.agg #[.int .i64 0, .string ⟨#[]⟩, .slice none 0 0]), 3, 48) := by kernel_rfl
theorem under_sts : Tryd.prog.underlying 31 = some (.slice 55) := by kernel_rfl
theorem own_len {w : World} {base : Nat} {e : TypeId} {size : Nat} {v : Value} {n : Nat} {xs : List Value} (h : w.ownsRow base e size v n xs) : ∃ q c, v = .slice q n c := by
  rcases h.2 with ⟨rfl, rfl⟩ | ⟨g, cap, cur, rfl, _⟩
  · exact ⟨_, _, rfl⟩
  · exact ⟨_, _, rfl⟩
theorem take_snoc {m : List Tw} {j : Nat} (h : j < m.length) : (m.take (j + 1)).map (·.t) = (m.take j).map (·.t) ++ [m[j].t] := by rw [List.take_succ_eq_append_getElem h, List.map_append]; rfl
theorem own_slc {w : World} {base : Nat} {e : TypeId} {size : Nat} {v : Value} {n : Nat} {xs : List Value} (h : w.ownsRow base e size v n xs) : ∃ q k c, v = .slice q k c := by
  rcases h.2 with ⟨rfl, _⟩ | ⟨g, cap, cur, rfl, _⟩
  · exact ⟨_, _, _, rfl⟩
  · exact ⟨_, _, _, rfl⟩
theorem own_count {w : World} {base : Nat} {e : TypeId} {size : Nat} {q : Option Addr} {k c : Nat} {n : Nat} {xs : List Value} (h : w.ownsRow base e size (.slice q k c) n xs) : k = n := by
  rcases h.2 with ⟨h1, h2⟩ | ⟨g, cap, cur, h1, _⟩
  · injection h1 with _ h3 _; omega
  · injection h1
theorem news1 (W : World) (a : Value) (T : TypeId) : ∀ k u, [a][k]? = some u → (W.alloc (.cells #[a] T)).cell? ((⟨W.heap.size, 0, none⟩ : Addr).add k) = some u := by
  intro k u hu
  match k, hu with
  | 0, hu => simp at hu; subst hu; simp [Addr.add]
  | k + 1, hu => simp at hu
theorem newsS (W : World) (a b c : Value) (T : TypeId) : ∀ k u, [a, b, c][k]? = some u → (W.alloc (.cells #[a, b, c] T)).cell? ((⟨W.heap.size, 0, none⟩ : Addr).add k) = some u := by
  intro k u hu
  match k, hu with
  | 0, hu => simp at hu; subst hu; simp [Addr.add]
  | 1, hu => simp at hu; subst hu; simp [Addr.add]
  | 2, hu => simp at hu; subst hu; simp [Addr.add]
  | k + 3, hu => simp at hu
theorem OutS.set {B : Nat} {W : World} {v : Value} {l : List St} {vals : List Value} (h : OutS B W v l vals) {a : Addr} (ha : a.block < B) (x : Value) : OutS B (W.setCell a x) v l vals :=
  ⟨h.1, ownsRow_setCell_below h.2.1 ha x, fun k hk => ownsRow_setCell_below (h.2.2 k hk) ha x⟩
set_option linter.unusedSimpArgs false in
set_option linter.unusedVariables false in
set_option maxRecDepth 100000 in
set_option maxHeartbeats 12800000 in
theorem rParse_any (s : ByteArray) (w : World) (hs : s.size ≤ maxLen) : Calls Tryd.prog 24 #[ .string s ] w (PaP s w) := by
  obtain ⟨PR, hPR⟩ : ∃ P, parseS s = P := ⟨_, rfl⟩
  unfold PaP
  rw [hPR]
  have HPR := Lib.hid hPR
  clear hPR
  have E0 := Lib.hid (ErrAt.new w 0 0)
  have HS := Lib.hid hs
  clear hs
  go_enter Tryd.func24, Tryd.ntmps24
  go_wp2_with fail
  refine (rSplit_any s _ HS.out).mono ?_
  rintro e w1 ⟨vw, rfl, hown, hB⟩
  obtain ⟨R, hR⟩ : ∃ R, splitS s = R := ⟨_, rfl⟩
  have hrd := split_rd hown
  rw [hR] at hown hrd
  rw [hR]
  have hB1 : Below w.heap.size w w1 := ((Below.refl _ w).alloc (Nat.le_refl _) _).trans (hB.mono (by simp))
  have hE1 : ErrAt w1 w.heap.size 0 0 := (hB.block _ (by simp)).trans E0.out
  have B1 := Lib.hid hB1
  have E1 := Lib.hid hE1
  have RD := Lib.hid hrd
  clear hown hB hB1 hE1 hrd
  cases R with
  | bad k =>
    have hPS := HPR.out.symm.trans (parse_bad hR)
    subst hPS
    simp only [Res.err, Res.ln]
    have hlt := E1.out.lt
    have hEU : ErrAt (w1.alloc (.cells #[.int .i64 601, .int .i64 (k : Int)] 49)) w.heap.size 0 0 := (Below.heap_alloc _ _ _ hlt).trans E1.out
    have hFU := ErrAt.new w1 601 k
    have hBU : Below w.heap.size w (w1.alloc (.cells #[.int .i64 601, .int .i64 (k : Int)] 49)) := B1.out.alloc B1.out.size _
    go_wp2_with fail
    obtain ⟨U, hU⟩ : ∃ U, w1.alloc (.cells #[.int .i64 601, .int .i64 (k : Int)] 49) = U := ⟨_, rfl⟩
    rw [hU] at hEU hFU hBU ⊢
    have c0 := hEU.c0
    have c1 := hEU.c1
    have f0 := hEU.f0
    have f1 := hEU.f1
    have d0 := hFU.c0
    have d1 := hFU.c1
    have EU := Lib.hid hEU
    have BU := Lib.hid hBU
    clear hU hEU hFU hBU
    go_region
    all_goals go_wp2_with fail
    all_goals
      have hP := EU.out.put 601 k
      exact bodyPost_ret (v := .tuple #[.slice none 0 0, .agg #[.int .i64 601, .int .i64 (k : Int)]]) (by simp [results, Tryd.results24, go_sem, hP.c0, hP.c1]) rfl ⟨_, rfl, RdS.nil _, (Below.setCell (Below.setCell BU.out (Nat.le_refl _) _) (Nat.le_refl _) _).drew⟩
  | ok l =>
    have hwl : (l.map (wdT s)).length ≤ 16384 := by
      have := split_count s
      rw [hR] at this
      rw [List.length_map]; exact this
    have hE : ∀ e k, chk 0 (grp (l.map (wdT s))) = some (e, k) → PR = ⟨[], e, k⟩ := fun e k h => HPR.out.symm.trans (parse_err hR h)
    have hO : chk 0 (grp (l.map (wdT s))) = none → PR = ⟨grp (l.map (wdT s)), 0, 0⟩ := fun h => HPR.out.symm.trans (parse_ok hR h)
    have RD2 : Hid (RdW w1 vw (l.map (wdT s))) := RD
    clear RD
    obtain ⟨ws, hws⟩ : ∃ ws, l.map (wdT s) = ws := ⟨_, rfl⟩
    rw [hws] at hwl hE hO RD2
    simp only [Res.err, Res.ln]
    have HER := Lib.hid hE
    have HOK := Lib.hid hO
    clear hE hO hws hR HPR
    have hlt := E1.out.lt
    have hEU : ErrAt (w1.alloc (.cells #[.int .i64 0, .int .i64 0] 49)) w.heap.size 0 0 := (Below.heap_alloc _ _ _ hlt).trans E1.out
    have hBU : Below w.heap.size w (w1.alloc (.cells #[.int .i64 0, .int .i64 0] 49)) := B1.out.alloc B1.out.size _
    have hRU : RdW (w1.alloc (.cells #[.int .i64 0, .int .i64 0] 49)) vw ws := RD2.out.below ((Below.refl _ _).alloc (Nat.le_refl _) _) (Nat.le_refl _)
    obtain ⟨A, c, rfl, hwl2, _⟩ := RD2.out
    go_wp2_with fail
    obtain ⟨U, hU⟩ : ∃ U, w1.alloc (.cells #[.int .i64 0, .int .i64 0] 49) = U := ⟨_, rfl⟩
    rw [hU] at hEU hBU hRU ⊢
    have hkU : w.heap.size < U.heap.size := hEU.lt
    have EU := Lib.hid hEU
    have BU := Lib.hid hBU
    have RU := Lib.hid hRU
    clear hU hEU hBU hRU hlt RD2 B1 E1
    obtain ⟨y0, hi, hz0, hz1, hz2⟩ := info_parts info_st
    have Y0 := Lib.hid hi
    have Y1 := Lib.hid hz0
    have Y2 := Lib.hid hz1
    have Y3 := Lib.hid hz2
    clear hi hz0 hz1 hz2
    obtain ⟨z0, hi, hz0, hz1, hz2⟩ := info_parts info_str
    have Z0 := Lib.hid hi
    have Z1 := Lib.hid hz0
    have Z2 := Lib.hid hz1
    have Z3 := Lib.hid hz2
    clear hi hz0 hz1 hz2
    go_loopw [6, 7] (fun v6 v7 wr => ∃ (i : Nat) (l' : List St) (vals : List Value), v7 = .int .i64 i ∧ i ≤ ws.length ∧ l'.length ≤ i ∧ OutS U.heap.size wr v6 l' vals ∧ Below U.heap.size U wr ∧ l' ++ grp (ws.drop i) = grp ws ∧ chk l'.length (grp (ws.drop i)) = chk 0 (grp ws)) (fun _ v7 _ => ws.length - (intOf v7).toNat)
    case atStart => exact ⟨0, [], [], rfl, by omega, by simp, OutS.nil _ _, Below.refl _ _, rfl, rfl⟩
    case round =>
      obtain ⟨wo, hwo⟩ : ∃ wo, wo = wr := ⟨_, rfl⟩
      subst hwo
      obtain ⟨i, l', vals, rfl, hi, hli, hout, hbU, hgr, hck⟩ := hrel
      have HOUT := Lib.hid hout
      have HBU := Lib.hid hbU
      have HGR := Lib.hid hgr
      have HCK := Lib.hid hck
      clear hout hbU hgr hck
      by_cases hlt : i < ws.length
      · obtain ⟨m, r, hm1, hm2, hm3, hm4, hm5, hm6, hm7⟩ := line_cut hlt
        obtain ⟨_, _, hv, _, hrd⟩ := RU.out.below HBU.out (Nat.le_refl _)
        injection hv with hA _ hC
        subst hA hC
        obtain ⟨g, rfl, hg, a0, a1, a2⟩ := hrd i hlt
        have HM2 := Lib.hid hm2
        have HM3 := Lib.hid hm3
        have HM5 := Lib.hid hm5
        have HM6 := Lib.hid hm6
        have HM7 := Lib.hid hm7
        have HRD := Lib.hid hrd
        clear hm1 hm2 hm3 hm5 hm6 hm7 hrd a2
        go_wp2_with fail
        go_region
        obtain ⟨V, hV⟩ : ∃ V, (wo.alloc (.cells #[.int .i64 ws[i].l, .string ws[i].t, .slice none 0 0] 55)).drew = V := ⟨_, rfl⟩
        have hP0 : In wo V ws[i].l ws[i].t (.slice none 0 0) [] := by
          rw [← hV]
          exact In.start (((Below.refl _ _).alloc (Nat.le_refl _) _).drew) (heap_alloc_new _ _)
        rw [hV]
        have HP0 := Lib.hid hP0
        clear hV hP0 a0 a1
        go_upto_block 2 with fail
        go_cut [7] from 35 to 60 (fun v7 wx => ∃ va, v7 = .int .i64 ((i + 1 + m.length : Nat) : Int) ∧ In wo wx ws[i].l ws[i].t va (m.map (·.t)))
        case first =>
          go_wp2_with fail
          go_loopw [7] (fun v7 wr => ∃ (p j : Nat) (va : Value), v7 = .int .i64 p ∧ p = i + 1 + j ∧ j ≤ m.length ∧ In wo wr ws[i].l ws[i].t va ((m.take j).map (·.t))) (fun v7 _ => ws.length - (intOf v7).toNat)
          case atStart => exact ⟨i + 1, 0, _, by go_num, by omega, by omega, HP0.out⟩
          case round =>
            obtain ⟨p, j, va, rfl, hpj, hj, hP⟩ := hrel
            have HPJ := Lib.hid hpj
            clear HP0
            by_cases hjm : j < m.length
            · obtain ⟨hj', hmj⟩ := HM6.out j hjm
              have hpl : p < ws.length := by omega
              obtain ⟨g', hgg, hgl, b0, b1, _⟩ := HRD.out p hpl
              injection hgg with hgg
              injection hgg with hgg _ _
              subst hgg
              have hwp : ws[p] = m[j] := by rw [hmj]; congr 1
              rw [hwp] at b0 b1
              rw [HM2.out m[j] (List.getElem_mem _)] at b1
              have cw : wr.cell? ⟨g, p * 3, none⟩ = some (.string m[j].t) := (hP.bel.cell (p := ⟨g, p * 3, none⟩) hgl).trans b0
              have cl : wr.cell? ⟨g, p * 3 + 1, none⟩ = some (.int .i64 ws[i].l) := (hP.bel.cell (p := ⟨g, p * 3 + 1, none⟩) hgl).trans b1
              have c0 := hP.c0
              have hgl2 : g < wr.heap.size := by have := hP.bel.size; omega
              have HP := Lib.hid hP
              clear hP hwp hmj b0 b1 hpj
              go_wp2_with fail
              go_quiet (fail)
              go_wp2_with fail
              obtain ⟨ys, hys⟩ : ∃ ys : List ByteArray, (m.take j).map (·.t) = ys := ⟨_, rfl⟩
              have hP2 := HP.out.drewN nq
              rw [hys] at hP2
              have hyl : ys.length = j := by rw [← hys, List.length_map, List.length_take]; omega
              have HYS := Lib.hid hys
              have cw2 := (show (wr.drewN nq).cell? ⟨g, p * 3, none⟩ = some (.string m[j].t) from cw)
              clear HP cw cl c0 hys
              obtain ⟨Y, hY⟩ : ∃ Y, wr.drewN nq = Y := ⟨_, rfl⟩
              have hgY : g < Y.heap.size := by rw [← hY]; exact hgl2
              rw [hY] at hP2 cw2 ⊢
              clear hY hgl2
              have HY := Lib.hid hP2
              have CY := Lib.hid cw2
              have HP := Lib.hid hP2.drew
              have cw := (show Y.drew.cell? ⟨g, p * 3, none⟩ = some (.string m[j].t) from cw2)
              have c2 := HP.out.c2
              clear hP2 cw2
              refine wp_region_held_drew (S := (fun _ => True)) (by kernel_rfl) ?_ (fun hHeld => ?_)
              focus (exact trivial)
              refine wpAnyH_take (i := 0) (v := ?_) rfl (by kernel_rfl) (by kernel_rfl) (by kernel_rfl) (fun _ _ _ h => h) (Or.inl ⟨by rfl, ?_⟩) (by assumption) ?_; rotate_left; (focus (intro w hSw; (try dsimp only at hSw); go_simp; try with_reducible rfl)); (try simp only [Act.put, List.getElem_toArray, List.getElem_cons_succ, List.getElem_cons_zero, List.setIfInBounds_toArray, List.set_cons_zero, List.set_cons_succ])
              refine wpAnyH_take (i := 2) (v := ?_) rfl (by kernel_rfl) (by kernel_rfl) (by kernel_rfl) (fun _ _ _ h => h) (Or.inl ⟨by rfl, ?_⟩) (by assumption) ?_; rotate_left; (focus (intro w hSw; (try dsimp only at hSw); go_simp; try with_reducible rfl)); (try simp only [Act.put, List.getElem_toArray, List.getElem_cons_succ, List.getElem_cons_zero, List.setIfInBounds_toArray, List.set_cons_zero, List.set_cons_succ])
              refine wpAnyH_take (i := 3) (v := ?_) rfl (by kernel_rfl) (by kernel_rfl) (by kernel_rfl) (fun _ _ _ h => h) (Or.inl ⟨by rfl, ?_⟩) (by assumption) ?_; rotate_left; (focus (intro w hSw; (try dsimp only at hSw); go_simp; try with_reducible rfl)); (try simp only [Act.put, List.getElem_toArray, List.getElem_cons_succ, List.getElem_cons_zero, List.setIfInBounds_toArray, List.set_cons_zero, List.set_cons_succ])
              refine wpAnyH_take (i := 4) (v := ?_) rfl (by kernel_rfl) (by kernel_rfl) (by kernel_rfl) (fun _ _ _ h => h) (Or.inl ⟨by rfl, ?_⟩) (by assumption) ?_; rotate_left; (focus (intro w hSw; (try dsimp only at hSw); go_simp; try with_reducible rfl)); (try simp only [Act.put, List.getElem_toArray, List.getElem_cons_succ, List.getElem_cons_zero, List.setIfInBounds_toArray, List.set_cons_zero, List.set_cons_succ])
              refine wpAnyH_take (i := 5) (v := ?_) rfl (by kernel_rfl) (by kernel_rfl) (by kernel_rfl) (fun _ _ _ h => h) (Or.inl ⟨by rfl, ?_⟩) (by assumption) ?_; rotate_left; (focus (intro w hSw; (try dsimp only at hSw); go_simp; try with_reducible rfl)); (try simp only [Act.put, List.getElem_toArray, List.getElem_cons_succ, List.getElem_cons_zero, List.setIfInBounds_toArray, List.set_cons_zero, List.set_cons_succ])
              refine wpAnyH_ready (rs := [1, 6]) (by kernel_rfl) (by simp) (AllReadyH.cons rfl (fun K hK => ?_) (AllReadyH.cons rfl (fun K hK => ?_) (AllReadyH.nil)))
              · go_simp; refine hK.out _ _ ?_ (fun hHeld => ?_); (focus (exact trivial)); clear hK K; (try simp only [Act.put, List.getElem_toArray, List.getElem_cons_succ, List.getElem_cons_zero, List.setIfInBounds_toArray, List.set_cons_zero, List.set_cons_succ])
                refine wpAnyH_ready (rs := [6]) (by kernel_rfl) (by simp) (AllReadyH.cons rfl (fun K hK => ?_) (AllReadyH.nil))
                go_simp; refine hK.out _ _ ?_ (fun hHeld => ?_); (focus (exact trivial)); clear hK K; (try simp only [Act.put, List.getElem_toArray, List.getElem_cons_succ, List.getElem_cons_zero, List.setIfInBounds_toArray, List.set_cons_zero, List.set_cons_succ])
                refine wpAnyH_ready (rs := [7]) (by kernel_rfl) (by simp) (AllReadyH.cons rfl (fun K hK => ?_) (AllReadyH.nil))
                go_simp; refine hK.out _ _ ?_ (fun hHeld => ?_); (focus (exact trivial)); clear hK K; (try simp only [Act.put, List.getElem_toArray, List.getElem_cons_succ, List.getElem_cons_zero, List.setIfInBounds_toArray, List.set_cons_zero, List.set_cons_succ]); have HP2 := Lib.hid (HY.out.alloc (.cells #[.string m[j].t] 9)).drew; have cw2 := (show (Y.alloc (.cells #[.string m[j].t] 9)).drew.cell? ⟨g, p * 3, none⟩ = some (.string m[j].t) from (((Below.refl _ _).alloc (Nat.le_refl _) (.cells #[.string m[j].t] 9)).cell (p := ⟨g, p * 3, none⟩) hgY).trans CY.out); clear HP c2 cw; have HP := HP2; clear HP2; have c2 := HP.out.c2; have cw := cw2; clear cw2
                refine wpAnyH_ready (rs := [8]) (by kernel_rfl) (by simp) (AllReadyH.cons rfl (fun K hK => ?_) (AllReadyH.nil))
                rw [if_pos (by rfl)]; refine wp_append_own _ (.tmp 50) (.tmp 56) 53 rfl (wo.heap.size + 1) 9 z0 (.string ⟨#[]⟩) 1 16 under_strs Z0.out Z1.out Z2.out Z3.out rfl (by decide) _ ys.length (ys.map .string) rfl HP.out.own ⟨_, 0, none⟩ 1 1 [.string m[j].t] rfl (by rfl) (news1 _ _ _) (fun u hu => by simp at hu; subst hu; rfl) (by unfold maxLen; omega) (by omega) HP.out.lt1 ?_; intro v' w1 hown' hgrow _; obtain ⟨q1, q2, q3, rfl⟩ := own_slc hown'; obtain ⟨hb1, hP1⟩ := HP.out.pushed hown' hgrow; clear HP c2 cw hown' hgrow; have HP := Lib.hid hP1; have c2 := cell_of_row w1 _ 2 _ _ _ hb1; have f2 := frozen_of_row w1 _ 2 _ _ hb1; clear hb1 hP1; refine hK.out _ _ ?_ (fun hHeld => ?_); (focus (exact trivial)); clear hK K; (try simp only [Act.put, List.getElem_toArray, List.getElem_cons_succ, List.getElem_cons_zero, List.setIfInBounds_toArray, List.set_cons_zero, List.set_cons_succ])
                refine wpAnyH_take (i := 9) (v := ?_) rfl (by kernel_rfl) (by kernel_rfl) (by kernel_rfl) (fun _ _ _ h => h) (Or.inl ⟨by rfl, ?_⟩) (by assumption) ?_; rotate_left; (focus (intro w hSw; (try dsimp only at hSw); go_simp; try with_reducible rfl)); (try simp only [Act.put, List.getElem_toArray, List.getElem_cons_succ, List.getElem_cons_zero, List.setIfInBounds_toArray, List.set_cons_zero, List.set_cons_succ])
                refine wpAnyH_ready (rs := [10]) (by kernel_rfl) (by simp) (AllReadyH.cons rfl (fun K hK => ?_) (AllReadyH.nil))
                go_simp; refine hK.out _ _ ?_ (fun hHeld => ?_); (focus (exact trivial)); clear hK K; (try simp only [Act.put, List.getElem_toArray, List.getElem_cons_succ, List.getElem_cons_zero, List.setIfInBounds_toArray, List.set_cons_zero, List.set_cons_succ])
                refine wpAnyH_done (by kernel_rfl) ?_ _
                go_wp2_with fail
                go_roundw
                case rel => exact ⟨p + 1, j + 1, _, by go_num, by have := HPJ.out; omega, by omega, by rw [take_snoc hjm, HYS.out]; exact HP.out⟩
                case measure => simp [intOf]; omega
              · go_simp; refine hK.out _ _ ?_ (fun hHeld => ?_); (focus (exact trivial)); clear hK K; (try simp only [Act.put, List.getElem_toArray, List.getElem_cons_succ, List.getElem_cons_zero, List.setIfInBounds_toArray, List.set_cons_zero, List.set_cons_succ])
                refine wpAnyH_ready (rs := [1, 7]) (by kernel_rfl) (by simp) (AllReadyH.cons rfl (fun K hK => ?_) (AllReadyH.cons rfl (fun K hK => ?_) (AllReadyH.nil)))
                · go_simp; refine hK.out _ _ ?_ (fun hHeld => ?_); (focus (exact trivial)); clear hK K; (try simp only [Act.put, List.getElem_toArray, List.getElem_cons_succ, List.getElem_cons_zero, List.setIfInBounds_toArray, List.set_cons_zero, List.set_cons_succ])
                  refine wpAnyH_ready (rs := [7]) (by kernel_rfl) (by simp) (AllReadyH.cons rfl (fun K hK => ?_) (AllReadyH.nil))
                  go_simp; refine hK.out _ _ ?_ (fun hHeld => ?_); (focus (exact trivial)); clear hK K; (try simp only [Act.put, List.getElem_toArray, List.getElem_cons_succ, List.getElem_cons_zero, List.setIfInBounds_toArray, List.set_cons_zero, List.set_cons_succ]); have HP2 := Lib.hid (HY.out.alloc (.cells #[.string m[j].t] 9)).drew; have cw2 := (show (Y.alloc (.cells #[.string m[j].t] 9)).drew.cell? ⟨g, p * 3, none⟩ = some (.string m[j].t) from (((Below.refl _ _).alloc (Nat.le_refl _) (.cells #[.string m[j].t] 9)).cell (p := ⟨g, p * 3, none⟩) hgY).trans CY.out); clear HP c2 cw; have HP := HP2; clear HP2; have c2 := HP.out.c2; have cw := cw2; clear cw2
                  refine wpAnyH_ready (rs := [8]) (by kernel_rfl) (by simp) (AllReadyH.cons rfl (fun K hK => ?_) (AllReadyH.nil))
                  rw [if_pos (by rfl)]; refine wp_append_own _ (.tmp 50) (.tmp 56) 53 rfl (wo.heap.size + 1) 9 z0 (.string ⟨#[]⟩) 1 16 under_strs Z0.out Z1.out Z2.out Z3.out rfl (by decide) _ ys.length (ys.map .string) rfl HP.out.own ⟨_, 0, none⟩ 1 1 [.string m[j].t] rfl (by rfl) (news1 _ _ _) (fun u hu => by simp at hu; subst hu; rfl) (by unfold maxLen; omega) (by omega) HP.out.lt1 ?_; intro v' w1 hown' hgrow _; obtain ⟨q1, q2, q3, rfl⟩ := own_slc hown'; obtain ⟨hb1, hP1⟩ := HP.out.pushed hown' hgrow; clear HP c2 cw hown' hgrow; have HP := Lib.hid hP1; have c2 := cell_of_row w1 _ 2 _ _ _ hb1; have f2 := frozen_of_row w1 _ 2 _ _ hb1; clear hb1 hP1; refine hK.out _ _ ?_ (fun hHeld => ?_); (focus (exact trivial)); clear hK K; (try simp only [Act.put, List.getElem_toArray, List.getElem_cons_succ, List.getElem_cons_zero, List.setIfInBounds_toArray, List.set_cons_zero, List.set_cons_succ])
                  refine wpAnyH_take (i := 9) (v := ?_) rfl (by kernel_rfl) (by kernel_rfl) (by kernel_rfl) (fun _ _ _ h => h) (Or.inl ⟨by rfl, ?_⟩) (by assumption) ?_; rotate_left; (focus (intro w hSw; (try dsimp only at hSw); go_simp; try with_reducible rfl)); (try simp only [Act.put, List.getElem_toArray, List.getElem_cons_succ, List.getElem_cons_zero, List.setIfInBounds_toArray, List.set_cons_zero, List.set_cons_succ])
                  refine wpAnyH_ready (rs := [10]) (by kernel_rfl) (by simp) (AllReadyH.cons rfl (fun K hK => ?_) (AllReadyH.nil))
                  go_simp; refine hK.out _ _ ?_ (fun hHeld => ?_); (focus (exact trivial)); clear hK K; (try simp only [Act.put, List.getElem_toArray, List.getElem_cons_succ, List.getElem_cons_zero, List.setIfInBounds_toArray, List.set_cons_zero, List.set_cons_succ])
                  refine wpAnyH_done (by kernel_rfl) ?_ _
                  go_wp2_with fail
                  go_roundw
                  case rel => exact ⟨p + 1, j + 1, _, by go_num, by have := HPJ.out; omega, by omega, by rw [take_snoc hjm, HYS.out]; exact HP.out⟩
                  case measure => simp [intOf]; omega
                · go_simp; refine hK.out _ _ ?_ (fun hHeld => ?_); (focus (exact trivial)); clear hK K; (try simp only [Act.put, List.getElem_toArray, List.getElem_cons_succ, List.getElem_cons_zero, List.setIfInBounds_toArray, List.set_cons_zero, List.set_cons_succ]); have HP2 := Lib.hid (HY.out.alloc (.cells #[.string m[j].t] 9)).drew; have cw2 := (show (Y.alloc (.cells #[.string m[j].t] 9)).drew.cell? ⟨g, p * 3, none⟩ = some (.string m[j].t) from (((Below.refl _ _).alloc (Nat.le_refl _) (.cells #[.string m[j].t] 9)).cell (p := ⟨g, p * 3, none⟩) hgY).trans CY.out); clear HP c2 cw; have HP := HP2; clear HP2; have c2 := HP.out.c2; have cw := cw2; clear cw2
                  refine wpAnyH_ready (rs := [1]) (by kernel_rfl) (by simp) (AllReadyH.cons rfl (fun K hK => ?_) (AllReadyH.nil))
                  go_simp; refine hK.out _ _ ?_ (fun hHeld => ?_); (focus (exact trivial)); clear hK K; (try simp only [Act.put, List.getElem_toArray, List.getElem_cons_succ, List.getElem_cons_zero, List.setIfInBounds_toArray, List.set_cons_zero, List.set_cons_succ])
                  refine wpAnyH_ready (rs := [8]) (by kernel_rfl) (by simp) (AllReadyH.cons rfl (fun K hK => ?_) (AllReadyH.nil))
                  rw [if_pos (by rfl)]; refine wp_append_own _ (.tmp 50) (.tmp 56) 53 rfl (wo.heap.size + 1) 9 z0 (.string ⟨#[]⟩) 1 16 under_strs Z0.out Z1.out Z2.out Z3.out rfl (by decide) _ ys.length (ys.map .string) rfl HP.out.own ⟨_, 0, none⟩ 1 1 [.string m[j].t] rfl (by rfl) (news1 _ _ _) (fun u hu => by simp at hu; subst hu; rfl) (by unfold maxLen; omega) (by omega) HP.out.lt1 ?_; intro v' w1 hown' hgrow _; obtain ⟨q1, q2, q3, rfl⟩ := own_slc hown'; obtain ⟨hb1, hP1⟩ := HP.out.pushed hown' hgrow; clear HP c2 cw hown' hgrow; have HP := Lib.hid hP1; have c2 := cell_of_row w1 _ 2 _ _ _ hb1; have f2 := frozen_of_row w1 _ 2 _ _ hb1; clear hb1 hP1; refine hK.out _ _ ?_ (fun hHeld => ?_); (focus (exact trivial)); clear hK K; (try simp only [Act.put, List.getElem_toArray, List.getElem_cons_succ, List.getElem_cons_zero, List.setIfInBounds_toArray, List.set_cons_zero, List.set_cons_succ])
                  refine wpAnyH_take (i := 9) (v := ?_) rfl (by kernel_rfl) (by kernel_rfl) (by kernel_rfl) (fun _ _ _ h => h) (Or.inl ⟨by rfl, ?_⟩) (by assumption) ?_; rotate_left; (focus (intro w hSw; (try dsimp only at hSw); go_simp; try with_reducible rfl)); (try simp only [Act.put, List.getElem_toArray, List.getElem_cons_succ, List.getElem_cons_zero, List.setIfInBounds_toArray, List.set_cons_zero, List.set_cons_succ])
                  refine wpAnyH_ready (rs := [10]) (by kernel_rfl) (by simp) (AllReadyH.cons rfl (fun K hK => ?_) (AllReadyH.nil))
                  go_simp; refine hK.out _ _ ?_ (fun hHeld => ?_); (focus (exact trivial)); clear hK K; (try simp only [Act.put, List.getElem_toArray, List.getElem_cons_succ, List.getElem_cons_zero, List.setIfInBounds_toArray, List.set_cons_zero, List.set_cons_succ])
                  refine wpAnyH_done (by kernel_rfl) ?_ _
                  go_wp2_with fail
                  go_roundw
                  case rel => exact ⟨p + 1, j + 1, _, by go_num, by have := HPJ.out; omega, by omega, by rw [take_snoc hjm, HYS.out]; exact HP.out⟩
                  case measure => simp [intOf]; omega
            · have hje : j = m.length := by omega
              subst hje
              have hP' : In wo wr ws[i].l ws[i].t va (m.map (·.t)) := by rw [List.take_length] at hP; exact hP
              clear hP
              by_cases hpl : p < ws.length
              · obtain ⟨g', hgg, hgl, b0, b1, _⟩ := HRD.out p hpl
                injection hgg with hgg
                injection hgg with hgg _ _
                subst hgg
                have hne : ws[p].l ≠ ws[i].l := HM3.out ws[p] (ws.drop (p + 1)) (by rw [← HM5.out, ← hpj]; exact List.drop_eq_getElem_cons hpl)
                obtain ⟨lp, hlp⟩ : ∃ lp, ws[p].l = lp := ⟨_, rfl⟩
                rw [hlp] at b1 hne
                have cl : wr.cell? ⟨g, p * 3 + 1, none⟩ = some (.int .i64 lp) := (hP'.bel.cell (p := ⟨g, p * 3 + 1, none⟩) hgl).trans b1
                have c0 := hP'.c0
                have HP := Lib.hid hP'
                have hgl2 : g < wr.heap.size := by have := hP'.bel.size; omega
                clear hP' b0 b1 hlp hpj
                go_wp2_with fail
                go_quiet (fail)
                go_wp2_with fail
                go_meet
                exact ⟨va, by rw [← HPJ.out], HP.out.drewN nq⟩
              · have HP := Lib.hid hP'
                clear hP' hpj
                go_wp2_with fail
                go_quiet (fail)
                go_wp2_with fail
                go_meet
                exact ⟨va, by rw [← HPJ.out], HP.out.drewN nq⟩
        case rest =>
          obtain ⟨va, rfl, hP⟩ := hcut
          have hUX : Below U.heap.size U wc := HBU.out.trans (hP.bel.mono HBU.out.size)
          have hEX : ErrAt wc w.heap.size 0 0 := (hUX.block _ hkU).trans EU.out
          have hBX : Below w.heap.size w wc := BU.out.trans (hUX.mono BU.out.size)
          have hOX := HOUT.out.next hP.bel
          obtain ⟨q6, k6, c6, rfl⟩ := own_slc hOX.2.1
          have hk6 : k6 = l'.length := own_count hOX.2.1
          subst hk6
          obtain ⟨qa, ka, ca, rfl⟩ := own_slc hP.own
          have hka : ka = m.length := (own_count hP.own).trans (List.length_map _)
          subst hka
          have EX := Lib.hid hEX
          have BX := Lib.hid hBX
          have UX := Lib.hid hUX
          have OX := Lib.hid hOX
          have HP := Lib.hid hP
          have c0 := hP.c0
          have c1 := hP.c1
          have c2 := hP.c2
          have f0 := hEX.f0
          have f1 := hEX.f1
          have e0 := hEX.c0
          have e1 := hEX.c1
          have hll : l'.length ≤ 16384 := by omega
          clear hUX hEX hBX hOX hP HOUT
          by_cases h256 : 256 ≤ l'.length
          · have hPR := HER.out 703 ws[i].l (by rw [← HCK.out, HM7.out, chk, if_pos h256])
            subst hPR
            go_wp2_with fail
            go_region
            all_goals go_wp2_with fail
            all_goals
              have hP := EX.out.put 703 ws[i].l
              exact bodyPost_ret (v := .tuple #[.slice none 0 0, .agg #[.int .i64 703, .int .i64 ws[i].l]]) (by simp [results, Tryd.results24, go_sem, hP.c0, hP.c1]) rfl ⟨_, rfl, RdS.nil _, (Below.setCell (Below.setCell BX.out (Nat.le_refl _) _) (Nat.le_refl _) _).drew⟩
          · cases hkn : knownK (wordK (bts ws[i].t)) with
            | false =>
              have HKN := Lib.hid hkn
              clear hkn
              have hPR := HER.out 701 ws[i].l (by rw [← HCK.out, HM7.out, chk, if_neg h256, if_pos HKN.out])
              subst hPR
              go_wp2_with (first | (go_at_call 43; (with_reducible refine (rKnown_any ws[i].t _).mono ?_); rintro e w' ⟨rfl, rfl⟩; rw [HKN.out]))
              go_region
              all_goals go_wp2_with fail
              all_goals
                have hP := EX.out.put 701 ws[i].l
                exact bodyPost_ret (v := .tuple #[.slice none 0 0, .agg #[.int .i64 701, .int .i64 ws[i].l]]) (by simp [results, Tryd.results24, go_sem, hP.c0, hP.c1]) rfl ⟨_, rfl, RdS.nil _, (Below.setCell (Below.setCell BX.out (Nat.le_refl _) _) (Nat.le_refl _) _).drew⟩
            | true =>
              have HKN := Lib.hid hkn
              clear hkn
              cases har : argsK (wordK (bts ws[i].t)) (m.length : Int) with
              | false =>
                have HAR := Lib.hid har
                clear har
                have hPR := HER.out 702 ws[i].l (by rw [← HCK.out, HM7.out, chk, if_neg h256, if_neg (by rw [HKN.out]; decide), if_pos (by rw [List.length_map]; exact HAR.out)])
                subst hPR
                go_wp2_with (first | (go_at_call 43; (with_reducible refine (rKnown_any ws[i].t _).mono ?_); rintro e w' ⟨rfl, rfl⟩; rw [HKN.out]) | (go_at_call 14; (with_reducible refine (rArguments_any ws[i].t (m.length : Nat) _ (by omega) (by omega)).mono ?_); rintro e w' ⟨rfl, rfl⟩; rw [HAR.out]))
                go_region
                all_goals go_wp2_with fail
                all_goals
                  have hP := EX.out.put 702 ws[i].l
                  exact bodyPost_ret (v := .tuple #[.slice none 0 0, .agg #[.int .i64 702, .int .i64 ws[i].l]]) (by simp [results, Tryd.results24, go_sem, hP.c0, hP.c1]) rfl ⟨_, rfl, RdS.nil _, (Below.setCell (Below.setCell BX.out (Nat.le_refl _) _) (Nat.le_refl _) _).drew⟩
              | true =>
                have HAR := Lib.hid har
                clear har
                have HOA := Lib.hid (OX.out.2.1.alloc (.cells #[.int .i64 ws[i].l, .string ws[i].t, .slice qa m.length ca] 55))
                have hUs := UX.out.size
                go_wp2_with (first | (go_at_call 43; (with_reducible refine (rKnown_any ws[i].t _).mono ?_); rintro e w' ⟨rfl, rfl⟩; rw [HKN.out]) | (go_at_call 14; (with_reducible refine (rArguments_any ws[i].t (m.length : Nat) _ (by omega) (by omega)).mono ?_); rintro e w' ⟨rfl, rfl⟩; rw [HAR.out]) | (at_builtin; refine wpList_append_own _ rfl (.tmp 87) (.tmp 89) 31 rfl U.heap.size 55 y0 (.agg #[.int .i64 0, .string ⟨#[]⟩, .slice none 0 0]) 3 48 under_sts Y0.out Y1.out Y2.out Y3.out rfl (by decide) _ l'.length (stcells l' vals) rfl HOA.out ⟨wc.heap.size, 0, none⟩ 1 1 [.int .i64 ws[i].l, .string ws[i].t, .slice qa m.length ca] rfl rfl (newsS wc _ _ _ _) (fun u hu => by simp at hu; rcases hu with rfl | rfl | rfl <;> rfl) (by unfold maxLen; omega) (by omega) (by simp; omega) ?_))
                intro v' w1' hown' hgrow _
                have hPU := OutS.push (g := ⟨ws[i].l, ws[i].t, m.map (fun x : Tw => x.t)⟩) OX.out (owns_base HP.out.own (by have := HBU.out.size; omega)) hown' hgrow
                have hBN : Below U.heap.size U w1' := (UX.out.alloc UX.out.size _).grown hgrow (by simp; omega) (fun j hj => by have := (OX.out.2.1.lt j hj).1; omega)
                have HPU := Lib.hid hPU
                have HBN := Lib.hid hBN
                clear hPU hBN hown' hgrow
                go_wp2_with fail
                go_roundw
                case rel => exact ⟨i + 1 + m.length, l' ++ [⟨ws[i].l, ws[i].t, m.map (fun x : Tw => x.t)⟩], _, rfl, by omega, by simp; omega, HPU.out, HBN.out, by rw [HM5.out, List.append_assoc]; rw [← HGR.out, HM7.out]; rfl, by rw [HM5.out, ← HCK.out, HM7.out, chk_step (by omega) ⟨HKN.out, by rw [List.length_map]; exact HAR.out⟩, List.length_append]; rfl⟩
                case measure => simp [intOf]; omega
      · have hie : i = ws.length := by omega
        have hgr := HGR.out
        have hck := HCK.out
        rw [List.drop_eq_nil_of_le (by omega)] at hgr hck
        have hl : l' = grp ws := by rw [← hgr]; simp [grp]
        have hPR := HOK.out (by rw [← hck]; rfl)
        subst hPR
        have hEX : ErrAt wo w.heap.size 0 0 := (HBU.out.block _ hkU).trans EU.out
        have hBX : Below w.heap.size w wo := BU.out.trans (HBU.out.mono BU.out.size)
        rw [hl] at HOUT
        have EX := Lib.hid hEX
        have BX := Lib.hid hBX
        have OX := Lib.hid HOUT.out
        have f0 := hEX.f0
        have f1 := hEX.f1
        have e0 := hEX.c0
        have e1 := hEX.c1
        clear hEX hBX HOUT hl hgr hck HGR HCK
        go_wp2_with fail
        have hP := EX.out.put 0 0
        have hRS := ((OX.out.set (a := ⟨w.heap.size, 0, none⟩) hkU (.int .i64 0)).set (a := ⟨w.heap.size, 1, none⟩) hkU (.int .i64 0)).rd (by have := grp_count ws; omega) (fun g hg => by have := grp_args ws g hg; omega)
        exact bodyPost_ret (v := .tuple #[u6, .agg #[.int .i64 0, .int .i64 0]]) (by simp [results, Tryd.results24, go_sem, hP.c0, hP.c1]) rfl ⟨_, rfl, hRS, Below.setCell (Below.setCell BX.out (Nat.le_refl _) _) (Nat.le_refl _) _⟩
end Go.Proofs.YtnahlpeckfcciaaDoor
