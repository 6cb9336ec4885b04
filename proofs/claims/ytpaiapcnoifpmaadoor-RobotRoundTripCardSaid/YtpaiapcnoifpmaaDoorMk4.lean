/- Proved: the maker of scenes returns some scene of moderate size, in memory of its own. Conditions: as each theorem states. -/
import Derived.Test.YtpaiapcnoifpmaaDoorMk3
import Derived.Test.YtpaiapcnoifpmaaDoorSrc
namespace Go.Proofs.YtpaiapcnoifpmaaDoor
open Go.RowKit

structure ShpD where
  link : Int
  radius : Int
  v : Value
  ps : List PntD
structure SkD where
  a : Int
  b : Int
def shpC (s : ShpD) : Array Value := #[.int .i64 s.link, .int .i64 s.radius, s.v]
def skC (s : SkD) : Array Value := #[.int .i64 s.a, .int .i64 s.b]
def scells (l : List ShpD) : List Value := l.flatMap (fun s => (shpC s).toList)
def kcells (l : List SkD) : List Value := l.flatMap (fun s => (skC s).toList)
theorem scells_snoc (l : List ShpD) (s : ShpD) : scells (l ++ [s]) = scells l ++ (shpC s).toList := by simp [scells]
theorem kcells_snoc (l : List SkD) (s : SkD) : kcells (l ++ [s]) = kcells l ++ (skC s).toList := by simp [kcells]
def ScAt (W : World) (q : Nat) (vj vm vs vk : Value) : Prop := W.heap[q]? = some (.cells #[vj, vm, vs, vk] 38 (0, 0))
theorem ScAt.at_new {V : World} {q : Nat} {vj vm vs vk : Value} (h : V.heap.size = q) : ScAt (V.alloc (.cells #[vj, vm, vs, vk] 38)) q vj vm vs vk := by subst h; exact heap_alloc_new _ _
theorem ScAt.lt {W : World} {q : Nat} {vj vm vs vk : Value} (h : ScAt W q vj vm vs vk) : q < W.heap.size := lt_of_block h
theorem ScAt.c0 {W : World} {q : Nat} {vj vm vs vk : Value} (h : ScAt W q vj vm vs vk) : W.cell? ⟨q, 0, none⟩ = some vj := cell_of_row W q 0 _ _ _ h
theorem ScAt.c2 {W : World} {q : Nat} {vj vm vs vk : Value} (h : ScAt W q vj vm vs vk) : W.cell? ⟨q, 2, none⟩ = some vs := cell_of_row W q 2 _ _ _ h
theorem ScAt.c3 {W : World} {q : Nat} {vj vm vs vk : Value} (h : ScAt W q vj vm vs vk) : W.cell? ⟨q, 3, none⟩ = some vk := cell_of_row W q 3 _ _ _ h
theorem ScAt.free {W : World} {q : Nat} {vj vm vs vk : Value} (h : ScAt W q vj vm vs vk) (k : Nat) : W.frozen? ⟨q, k, none⟩ = false := frozen_of_row W q k _ _ h
/-- A row lies in no block of another type. -/
theorem own_ne {w : World} {base q : Nat} {e T : TypeId} {size : Nat} {v : Value} {n : Nat} {xs : List Value} {c : Array Value} {fz : Nat × Nat} (h : w.ownsRow base e size v n xs) (hq : w.heap[q]? = some (.cells c T fz)) (hne : e ≠ T) : v.ownBlock ≠ some q := by
  rcases h.2 with ⟨rfl, _⟩ | ⟨g, cap, cur, rfl, _, hg, _⟩
  · intro e1; cases e1
  · intro e1
    injection e1 with e1
    have e2 : g = q := e1
    subst e2
    rw [hg] at hq
    injection hq with h1
    injection h1 with _ h2 _
    exact hne h2
theorem own_lower {w : World} {base base' : Nat} {e : TypeId} {size : Nat} {v : Value} {n : Nat} {xs : List Value} (h : w.ownsRow base e size v n xs) (hb : base' ≤ base) : w.ownsRow base' e size v n xs := by
  obtain ⟨h1, h2⟩ := h
  refine ⟨h1, ?_⟩
  rcases h2 with h2 | ⟨g, cap, cur, a, b, c⟩
  · exact .inl h2
  · exact .inr ⟨g, cap, cur, a, by omega, c⟩
theorem own_sc {w : World} {base q k : Nat} {e : TypeId} {size : Nat} {v u vj vm vs vk : Value} {n : Nat} {xs : List Value} (h : w.ownsRow base e size v n xs) (hq : ScAt w q vj vm vs vk) (hne : e ≠ 38) : (w.setCell ⟨q, k, none⟩ u).ownsRow base e size v n xs :=
  ownsRow_setCell_other h (a := ⟨q, k, none⟩) (own_ne h (show w.heap[q]? = some (.cells #[vj, vm, vs, vk] 38 (0, 0)) from hq) hne) u
/-- What is known while a scene is made: source b, the scene so far in block q, the result's block the first new one. -/
structure PS (b q : Nat) (w W : World) (js : List JointD) (ms : List MassD) (ss : List ShpD) (ks : List SkD) (vj vm vs vk : Value) : Prop where
  src : Src w.heap.size W b
  bl : Below w.heap.size w W
  sc : ScAt W q vj vm vs vk
  re : ScAt W w.heap.size (.slice none 0 0) (.slice none 0 0) (.slice none 0 0) (.slice none 0 0)
  oj : W.ownsRow (b + 1) 60 12 vj js.length (jcells js)
  om : W.ownsRow (b + 1) 74 5 vm ms.length (mcells ms)
  os : W.ownsRow (b + 1) 88 3 vs ss.length (scells ss)
  ok : W.ownsRow (b + 1) 92 2 vk ks.length (kcells ks)
  op : ∀ s ∈ ss, W.ownsRow (b + 1) 58 3 s.v s.ps.length (pcells s.ps)
  wb : w.heap.size < b
  bq : b < q
theorem PS.blt {b q : Nat} {w W : World} {js : List JointD} {ms : List MassD} {ss : List ShpD} {ks : List SkD} {vj vm vs vk : Value} (h : PS b q w W js ms ss ks vj vm vs vk) : b < W.heap.size := by have := h.sc.lt; have := h.bq; omega
theorem PS.drew {b q : Nat} {w W : World} {js : List JointD} {ms : List MassD} {ss : List ShpD} {ks : List SkD} {vj vm vs vk : Value} (h : PS b q w W js ms ss ks vj vm vs vk) : PS b q w W.drew js ms ss ks vj vm vs vk := ⟨h.src, h.bl.drew, h.sc, h.re, h.oj, h.om, h.os, h.ok, h.op, h.wb, h.bq⟩
theorem PS.next {b q : Nat} {w W : World} {js : List JointD} {ms : List MassD} {ss : List ShpD} {ks : List SkD} {vj vm vs vk : Value} {V : World} (h : PS b q w W js ms ss ks vj vm vs vk) (hs : Src w.heap.size V b) (hb : But b W V) : PS b q w V js ms ss ks vj vm vs vk := by
  have h1 := h.wb
  have h2 := h.bq
  exact ⟨hs, hb.below h.bl (by omega) (by have := h.re.lt; omega), (hb.block _ h.sc.lt (by omega)).trans h.sc, (hb.block _ h.re.lt (by omega)).trans h.re, own_but h.oj hb (by omega), own_but h.om hb (by omega), own_but h.os hb (by omega), own_but h.ok hb (by omega), fun s hs => own_but (h.op s hs) hb (by omega), h1, h2⟩
theorem PS.alloc {b q : Nat} {w W : World} {js : List JointD} {ms : List MassD} {ss : List ShpD} {ks : List SkD} {vj vm vs vk : Value} (h : PS b q w W js ms ss ks vj vm vs vk) (o : Obj) : PS b q w (W.alloc o) js ms ss ks vj vm vs vk := h.next (h.src.mk_alloc o) ((But.refl b W).mk_alloc o)
theorem PS.pushS {b q : Nat} {w W : World} {js : List JointD} {ms : List MassD} {ss : List ShpD} {ks : List SkD} {vj vm vs vk : Value} {w1 : World} {s : ShpD} {v' : Value} (h : PS b q w W js ms ss ks vj vm vs vk) (hsp : W.ownsRow (b + 1) 58 3 s.v s.ps.length (pcells s.ps))
    (hown : w1.ownsRow (b + 1) 88 3 v' (ss.length + 1) (scells ss ++ (shpC s).toList)) (hg : W.grownBy w1 vs.ownBlock) :
    ScAt w1 q vj vm vs vk ∧ PS b q w (w1.setCell ⟨q, 2, none⟩ v') js ms (ss ++ [s]) ks vj vm v' vk := by
  have h1 := h.wb
  have h2 := h.bq
  have h3 := h.re.lt
  have hr : ∀ k, vs.ownBlock = some k → b + 1 ≤ k := fun k hk => (h.os.lt k hk).1
  have sc1 : ScAt w1 q vj vm vs vk := (hg.block _ h.sc.lt (fun e => own_ne h.os h.sc (by decide) e.symm)).trans h.sc
  have re1 : ScAt w1 w.heap.size (.slice none 0 0) (.slice none 0 0) (.slice none 0 0) (.slice none 0 0) := (hg.block _ h3 (fun e => by have := hr _ e.symm; omega)).trans h.re
  have s1 := h.src.by_grown hg (fun k hk => by have := hr k hk; omega)
  have bl1 := h.bl.grown hg (by omega) (fun k hk => by have := hr k hk; omega)
  have j1 := h.oj.kept hg (own_apart h.oj h.os (by decide))
  have m1 := h.om.kept hg (own_apart h.om h.os (by decide))
  have k1 := h.ok.kept hg (own_apart h.ok h.os (by decide))
  have p1 : ∀ x ∈ ss ++ [s], w1.ownsRow (b + 1) 58 3 x.v x.ps.length (pcells x.ps) := by
    intro x hx
    rcases List.mem_append.1 hx with hx | hx
    · exact (h.op x hx).kept hg (own_apart (h.op x hx) h.os (by decide))
    · simp at hx; subst hx; exact hsp.kept hg (own_apart hsp h.os (by decide))
  have hz := sc1.lt
  refine ⟨sc1, s1.mk_set (by omega) (by omega) (by omega), bl1.setCell (by show w.heap.size ≤ q; omega) _, heap_setCell_same w1 q 2 _ _ v' sc1, (heap_setCell_other _ _ _ _ (by dsimp only; omega)).trans re1, own_sc j1 sc1 (by decide), own_sc m1 sc1 (by decide), ?_, own_sc k1 sc1 (by decide), fun x hx => own_sc (p1 x hx) sc1 (by decide), h1, h2⟩
  rw [List.length_append, scells_snoc]
  exact own_sc hown sc1 (by decide)
theorem PS.pushK {b q : Nat} {w W : World} {js : List JointD} {ms : List MassD} {ss : List ShpD} {ks : List SkD} {vj vm vs vk : Value} {w1 : World} {s : SkD} {v' : Value} (h : PS b q w W js ms ss ks vj vm vs vk)
    (hown : w1.ownsRow (b + 1) 92 2 v' (ks.length + 1) (kcells ks ++ (skC s).toList)) (hg : W.grownBy w1 vk.ownBlock) :
    ScAt w1 q vj vm vs vk ∧ PS b q w (w1.setCell ⟨q, 3, none⟩ v') js ms ss (ks ++ [s]) vj vm vs v' := by
  have h1 := h.wb
  have h2 := h.bq
  have h3 := h.re.lt
  have hr : ∀ k, vk.ownBlock = some k → b + 1 ≤ k := fun k hk => (h.ok.lt k hk).1
  have sc1 : ScAt w1 q vj vm vs vk := (hg.block _ h.sc.lt (fun e => own_ne h.ok h.sc (by decide) e.symm)).trans h.sc
  have re1 : ScAt w1 w.heap.size (.slice none 0 0) (.slice none 0 0) (.slice none 0 0) (.slice none 0 0) := (hg.block _ h3 (fun e => by have := hr _ e.symm; omega)).trans h.re
  have s1 := h.src.by_grown hg (fun k hk => by have := hr k hk; omega)
  have bl1 := h.bl.grown hg (by omega) (fun k hk => by have := hr k hk; omega)
  have j1 := h.oj.kept hg (own_apart h.oj h.ok (by decide))
  have m1 := h.om.kept hg (own_apart h.om h.ok (by decide))
  have o1 := h.os.kept hg (own_apart h.os h.ok (by decide))
  have p1 : ∀ x ∈ ss, w1.ownsRow (b + 1) 58 3 x.v x.ps.length (pcells x.ps) := fun x hx => (h.op x hx).kept hg (own_apart (h.op x hx) h.ok (by decide))
  have hz := sc1.lt
  refine ⟨sc1, s1.mk_set (by omega) (by omega) (by omega), bl1.setCell (by show w.heap.size ≤ q; omega) _, heap_setCell_same w1 q 3 _ _ v' sc1, (heap_setCell_other _ _ _ _ (by dsimp only; omega)).trans re1, own_sc j1 sc1 (by decide), own_sc m1 sc1 (by decide), own_sc o1 sc1 (by decide), ?_, fun x hx => own_sc (p1 x hx) sc1 (by decide), h1, h2⟩
  rw [List.length_append, kcells_snoc]
  exact own_sc hown sc1 (by decide)
theorem info_shp : (Tryd.prog.info? 88).map (fun i => (i.zero, i.size, i.bytes)) = some (some (.agg (shpC ⟨0, 0, .slice none 0 0, []⟩)), 3, 40) := by kernel_rfl
theorem under_shps : Tryd.prog.underlying 35 = some (.slice 88) := by kernel_rfl
theorem info_sk : (Tryd.prog.info? 92).map (fun i => (i.zero, i.size, i.bytes)) = some (some (.agg (skC ⟨0, 0⟩)), 2, 16) := by kernel_rfl
theorem under_sks : Tryd.prog.underlying 36 = some (.slice 92) := by kernel_rfl
theorem info_sc : (Tryd.prog.info? 38).map (·.size) = some 4 := by kernel_rfl
theorem under_sc : Tryd.prog.underlying 38 = some (.struct (Tryd.prog.fieldsOf 38)) := by kernel_rfl
theorem shp_news (W : World) (j : ShpD) : ∀ k u, (shpC j).toList[k]? = some u → (W.alloc (.cells (shpC j) 88)).cell? ((⟨W.heap.size, 0, none⟩ : Addr).add k) = some u := by
  intro k u hu
  have : (⟨W.heap.size, 0, none⟩ : Addr).add k = ⟨W.heap.size, k, none⟩ := by unfold Addr.add; split <;> simp_all
  rw [this, cell_of_row _ _ _ _ _ _ (heap_alloc_new _ _)]
  simpa using hu
theorem sk_news (W : World) (j : SkD) : ∀ k u, (skC j).toList[k]? = some u → (W.alloc (.cells (skC j) 92)).cell? ((⟨W.heap.size, 0, none⟩ : Addr).add k) = some u := by
  intro k u hu
  have : (⟨W.heap.size, 0, none⟩ : Addr).add k = ⟨W.heap.size, k, none⟩ := by unfold Addr.add; split <;> simp_all
  rw [this, cell_of_row _ _ _ _ _ _ (heap_alloc_new _ _)]
  simpa using hu
theorem shp_ones (j : ShpD) (h : j.v.oneCell' = true) : ∀ u ∈ (shpC j).toList, u.oneCell' = true := by
  intro u hu
  simp [shpC] at hu
  rcases hu with rfl | rfl | rfl
  · rfl
  · rfl
  · exact h
theorem sk_ones (j : SkD) : ∀ u ∈ (skC j).toList, u.oneCell' = true := by
  intro u hu
  simp [skC] at hu
  rcases hu with rfl | rfl <;> rfl
theorem src_mk {w w' : World} {a : Option Addr} {n c b : Nat} (h : ListAt w a n) (hb : Below w.heap.size w w') (hs : SrcAt w' b (.slice a n c) 0) (hbb : w.heap.size ≤ b) : Src w.heap.size w' b :=
  ⟨a, n, c, 0, hs, Nat.zero_le _, h.1, hbb, fun t ht => by
    obtain ⟨lb, lo, z, e, hl, hz, z1, z2⟩ := h.2 t ht
    exact ⟨lb, lo, z, e, hl, by rw [hb.cell (p := ⟨lb, lo + t, none⟩) hl]; exact hz, z1, z2⟩⟩
/-- What the maker makes of shapes and skips, with n joints. -/
def MadeS (n : Nat) (s : ShpD) : Prop := (-1 ≤ s.link ∧ s.link < n) ∧ (8192 ≤ s.radius ∧ s.radius ≤ 32768) ∧ (1 ≤ s.ps.length ∧ s.ps.length ≤ 4) ∧ ∀ k (h : k < s.ps.length), (-393216 ≤ (s.ps[k]).x ∧ (s.ps[k]).x ≤ 393216) ∧ (-360448 ≤ (s.ps[k]).y ∧ (s.ps[k]).y ≤ 360448) ∧ (-131072 ≤ (s.ps[k]).z ∧ (s.ps[k]).z ≤ 131072)
def MadeK (n : Nat) (s : SkD) : Prop := s.a = -1 ∧ 0 ≤ s.b ∧ s.b < n
theorem PntB.cells {W : World} {b : Nat} {p : PntD} (h : PntB W b p) : W.cell? ⟨b, 0, none⟩ = some (.int .i64 p.x) ∧ W.cell? ⟨b, 1, none⟩ = some (.int .i64 p.y) ∧ W.cell? ⟨b, 2, none⟩ = some (.int .i64 p.z) :=
  ⟨cell_of_row W _ 0 _ _ _ h, cell_of_row W _ 1 _ _ _ h, cell_of_row W _ 2 _ _ _ h⟩
theorem PntB.alloc {W : World} {b : Nat} {p : PntD} (h : PntB W b p) (o : Obj) : PntB (W.alloc o) b p := (Below.heap_alloc _ _ _ h.lt).trans h
theorem PntB.far {W : World} {b q k : Nat} {v : Value} {p : PntD} (h : PntB W b p) (hq : b ≠ q) : PntB (W.setCell ⟨q, k, none⟩ v) b p := (heap_setCell_other _ _ _ _ hq).trans h
theorem PntB.but {W V : World} {b q : Nat} {p : PntD} (h : PntB W b p) (k : But q W V) (hq : b ≠ q) : PntB V b p := (k.block b h.lt hq).trans h
theorem PntB.grown {W V : World} {base b : Nat} {e : TypeId} {size n : Nat} {v : Value} {xs : List Value} {p : PntD} (h : PntB W b p) (ho : W.ownsRow base e size v n xs) (hg : W.grownBy V v.ownBlock) (hne : e ≠ 58) : PntB V b p :=
  (hg.block _ h.lt (fun e1 => own_ne ho (show W.heap[b]? = some (.cells (pntC p) 58 (0, 0)) from h) hne e1.symm)).trans h
theorem PS.ones {b q : Nat} {w W : World} {js : List JointD} {ms : List MassD} {ss : List ShpD} {ks : List SkD} {vj vm vs vk : Value} (h : PS b q w W js ms ss ks vj vm vs vk) : (#[vj, vm, vs, vk] : Array Value).all (·.oneCell') = true := by
  simp [own_one h.oj, own_one h.om, own_one h.os, own_one h.ok]
theorem PS.done {b q : Nat} {w W : World} {js : List JointD} {ms : List MassD} {ss : List ShpD} {ks : List SkD} {vj vm vs vk : Value} (h : PS b q w W js ms ss ks vj vm vs vk) : Below w.heap.size w (W.setRow w.heap.size #[vj, vm, vs, vk]) ∧ (W.setRow w.heap.size #[vj, vm, vs, vk]).ownsRow w.heap.size 60 12 vj js.length (jcells js) ∧ (W.setRow w.heap.size #[vj, vm, vs, vk]).ownsRow w.heap.size 74 5 vm ms.length (mcells ms) ∧
    (W.setRow w.heap.size #[vj, vm, vs, vk]).ownsRow w.heap.size 88 3 vs ss.length (scells ss) ∧ (W.setRow w.heap.size #[vj, vm, vs, vk]).ownsRow w.heap.size 92 2 vk ks.length (kcells ks) ∧ ∀ s ∈ ss, (W.setRow w.heap.size #[vj, vm, vs, vk]).ownsRow w.heap.size 58 3 s.v s.ps.length (pcells s.ps) := by
  have h1 := h.wb
  have hb : Below w.heap.size w (W.setRow w.heap.size #[vj, vm, vs, vk]) :=
    ⟨h.bl.os, h.bl.tape, h.bl.output, by rw [show (W.setRow w.heap.size #[vj, vm, vs, vk]).heap.size = W.heap.size by simp [World.setRow]]; exact h.bl.size, fun k hk => (setRow_other _ _ _ _ (by omega)).trans (h.bl.block k hk)⟩
  exact ⟨hb, own_lower (own_setRow h.oj (by omega)) (by omega), own_lower (own_setRow h.om (by omega)) (by omega), own_lower (own_setRow h.os (by omega)) (by omega), own_lower (own_setRow h.ok (by omega)) (by omega), fun s hs => own_lower (own_setRow (h.op s hs) (by omega)) (by omega)⟩
theorem own_slice {w : World} {base : Nat} {e : TypeId} {size : Nat} {v : Value} {n : Nat} {xs : List Value} (h : w.ownsRow base e size v n xs) : ∃ A c, v = .slice A n c := by
  rcases h.2 with ⟨rfl, rfl⟩ | ⟨g, cap, cur, rfl, _⟩
  · exact ⟨none, 0, rfl⟩
  · exact ⟨_, _, rfl⟩
def SceneP (w : World) (e : Ending) (w' : World) : Prop := ∃ (js : List JointD) (ms : List MassD) (ss : List ShpD) (ks : List SkD) (vj vm vs vk : Value), e = .returned (.agg #[vj, vm, vs, vk]) ∧ Below w.heap.size w w' ∧
  w'.ownsRow w.heap.size 60 12 vj js.length (jcells js) ∧ w'.ownsRow w.heap.size 74 5 vm ms.length (mcells ms) ∧ w'.ownsRow w.heap.size 88 3 vs ss.length (scells ss) ∧ w'.ownsRow w.heap.size 92 2 vk ks.length (kcells ks) ∧
  (∀ s ∈ ss, w'.ownsRow w.heap.size 58 3 s.v s.ps.length (pcells s.ps)) ∧ (1 ≤ js.length ∧ js.length ≤ 3) ∧ (∀ k (h : k < js.length), MadeJ k js[k]) ∧ ms.length ≤ 2 ∧ (∀ k (h : k < ms.length), MadeM js.length ms[k]) ∧
  ss.length ≤ 6 ∧ (∀ k (h : k < ss.length), MadeS js.length ss[k]) ∧ ks.length ≤ 1 ∧ (∀ k (h : k < ks.length), MadeK js.length ks[k])
set_option linter.unusedSimpArgs false in
set_option linter.unusedVariables false in
set_option maxRecDepth 100000 in
set_option maxHeartbeats 12800000 in
theorem scene_any (ao : Option Addr) (n cap : Nat) (w : World) (l : ListAt w ao n) :
    Calls Tryd.prog 15 #[ .slice ao n cap ] w (SceneP w) := by
  have hl := Lib.hid l
  clear l
  obtain ⟨i0, hi, hz0, hz1, hz2⟩ := info_parts info_shp
  have SI := Lib.hid hi
  have SZ0 := Lib.hid hz0
  have SZ1 := Lib.hid hz1
  have SZ2 := Lib.hid hz2
  clear hi hz0 hz1 hz2
  obtain ⟨i1, hi, hz0, hz1, hz2⟩ := info_parts info_sk
  have KI := Lib.hid hi
  have KZ0 := Lib.hid hz0
  have KZ1 := Lib.hid hz1
  have KZ2 := Lib.hid hz2
  clear hi hz0 hz1 hz2
  have R0 := Lib.hid (show ScAt (w.alloc (.cells #[.slice none 0 0, .slice none 0 0, .slice none 0 0, .slice none 0 0] 38)) w.heap.size (.slice none 0 0) (.slice none 0 0) (.slice none 0 0) (.slice none 0 0) from ScAt.at_new rfl)
  have B0 := Lib.hid (show Below w.heap.size w (w.alloc (.cells #[.slice none 0 0, .slice none 0 0, .slice none 0 0, .slice none 0 0] 38)) from (Below.refl _ _).alloc (Nat.le_refl _) _)
  go_enter Tryd.func15, Tryd.ntmps15
  go_wp2_with fail
  refine (From_any ao n cap _).mono ?_
  rintro e w1 ⟨rfl, hsa, hb1⟩
  have hsz : (w.alloc (.cells #[.slice none 0 0, .slice none 0 0, .slice none 0 0, .slice none 0 0] 38)).heap.size = w.heap.size + 1 := by simp
  have R1 := Lib.hid (show ScAt w1 w.heap.size (.slice none 0 0) (.slice none 0 0) (.slice none 0 0) (.slice none 0 0) from (hb1.block _ (by omega)).trans R0.out)
  have B1 := Lib.hid (show Below w.heap.size w w1 from B0.out.trans (hb1.mono (by omega)))
  obtain ⟨b, hbd⟩ : ∃ b, (w.alloc (.cells #[.slice none 0 0, .slice none 0 0, .slice none 0 0, .slice none 0 0] 38)).heap.size = b := ⟨_, rfl⟩
  rw [hbd] at hsa hsz ⊢
  have wb : w.heap.size < b := by omega
  have bl1 : b < w1.heap.size := lt_of_block hsa
  have S1 := Lib.hid (src_mk hl.out B1.out hsa (by omega))
  clear hsa hb1 R0 B0 hbd hl hsz
  go_wp2_with fail
  refine (robot_any w.heap.size b _ S1.out bl1 (by omega)).mono ?_
  rintro e w2 ⟨js, ms, vj, vm, rfl, oj, om, hjl, hj, hml, hm, hs, hbut⟩
  obtain ⟨j1, j3⟩ := hjl
  obtain ⟨aj, cj, rfl⟩ := own_slice oj
  obtain ⟨am, cm, rfl⟩ := own_slice om
  have HJ := Lib.hid hj
  have HM := Lib.hid hm
  have HP := Lib.hid (show PS b w2.heap.size w (w2.alloc (.cells #[.slice aj js.length cj, .slice am ms.length cm, .slice none 0 0, .slice none 0 0] 38)) js ms [] [] (.slice aj js.length cj) (.slice am ms.length cm) (.slice none 0 0) (.slice none 0 0) from
    ⟨hs.mk_alloc _, (hbut.below B1.out (by omega) (by omega)).alloc (by have := hbut.size; omega) _, ScAt.at_new rfl, (Below.heap_alloc _ _ _ (by have := hbut.size; omega)).trans ((hbut.block _ (by omega) (by omega)).trans R1.out), own_lower (oj.alloc _) (by omega), own_lower (om.alloc _) (by omega), World.ownsRow_nil _ _ _ _, World.ownsRow_nil _ _ _ _, fun s h => (by cases h), wb, by have := hbut.size; omega⟩)
  clear oj om hj hm hs hbut S1 R1 B1 bl1
  go_wp2_with fail
  obtain ⟨q, hq⟩ : ∃ q, w2.heap.size = q := ⟨_, rfl⟩
  obtain ⟨U, hU⟩ : ∃ U, w2.alloc (.cells #[.slice aj js.length cj, .slice am ms.length cm, .slice none 0 0, .slice none 0 0] 38) = U := ⟨_, rfl⟩
  rw [hq, hU] at HP
  rw [hq, hU]
  clear hq hU
  go_loopw [5] (fun i wr => ∃ (k : Nat) (ss : List ShpD) (vs : Value), k ≤ js.length ∧ i = .int .i64 k ∧ ss.length ≤ k ∧ (∀ k (h : k < ss.length), MadeS js.length ss[k]) ∧ PS b q w wr js ms ss [] (.slice aj js.length cj) (.slice am ms.length cm) vs (.slice none 0 0)) (fun i _ => js.length - (intOf i).toNat)
  case atStart => exact ⟨0, [], _, by omega, rfl, by simp, fun k h => absurd h (by simp), HP.out⟩
  case round =>
    obtain ⟨k, ss, vs, hk, rfl, hsl, hall, hp⟩ := hrel
    clear HP
    have HALL := Lib.hid hall
    have HP := Lib.hid hp
    clear hall hp
    have c0 := HP.out.sc.c0
    by_cases hlt : k < js.length
    · go_wp2_with fail
      refine (Next_any w.heap.size b 5 _ HP.out.src (by omega) (by omega)).mono ?_
      rintro e w' ⟨r, r0, r1, rfl, hs, hbut⟩
      clear c0
      have HP2 := Lib.hid (HP.out.next hs hbut); clear HP; have HP := HP2; clear HP2 hs hbut
      by_cases hr4 : r < 4
      · have HP2 := Lib.hid HP.out.drew
        clear HP
        have HP := HP2
        clear HP2
        have c2 := HP.out.sc.c2
        go_wp2_with fail
        refine wp_region_held_drew (S := (fun _ => True)) (by kernel_rfl) ?_ (fun hHeld => ?_)
        focus (exact trivial)
        refine wpAnyH_take (i := 0) (v := ?_) rfl (by kernel_rfl) (by kernel_rfl) (by kernel_rfl) (fun _ _ _ h => h) (Or.inl ⟨by rfl, ?_⟩) (by assumption) ?_; rotate_left; (focus (intro w hSw; (try dsimp only at hSw); go_simp; try with_reducible rfl)); (try simp only [Act.put, List.getElem_toArray, List.getElem_cons_succ, List.getElem_cons_zero, List.setIfInBounds_toArray, List.set_cons_zero, List.set_cons_succ])
        refine wpAnyH_take (i := 2) (v := ?_) rfl (by kernel_rfl) (by kernel_rfl) (by kernel_rfl) (fun _ _ _ h => h) (Or.inl ⟨by rfl, ?_⟩) (by assumption) ?_; rotate_left; (focus (intro w hSw; (try dsimp only at hSw); go_simp; try with_reducible rfl)); (try simp only [Act.put, List.getElem_toArray, List.getElem_cons_succ, List.getElem_cons_zero, List.setIfInBounds_toArray, List.set_cons_zero, List.set_cons_succ])
        refine wpAnyH_take (i := 3) (v := ?_) rfl (by kernel_rfl) (by kernel_rfl) (by kernel_rfl) (fun _ _ _ h => h) (Or.inl ⟨by rfl, ?_⟩) (by assumption) ?_; rotate_left; (focus (intro w hSw; (try dsimp only at hSw); go_simp; try with_reducible rfl)); (try simp only [Act.put, List.getElem_toArray, List.getElem_cons_succ, List.getElem_cons_zero, List.setIfInBounds_toArray, List.set_cons_zero, List.set_cons_succ])
        refine wpAnyH_take (i := 8) (v := ?_) rfl (by kernel_rfl) (by kernel_rfl) (by kernel_rfl) (fun _ _ _ h => h) (Or.inl ⟨by rfl, ?_⟩) (by assumption) ?_; rotate_left; (focus (intro w hSw; (try dsimp only at hSw); go_simp; try with_reducible rfl)); (try simp only [Act.put, List.getElem_toArray, List.getElem_cons_succ, List.getElem_cons_zero, List.setIfInBounds_toArray, List.set_cons_zero, List.set_cons_succ])
        refine wpAnyH_take (i := 9) (v := ?_) rfl (by kernel_rfl) (by kernel_rfl) (by kernel_rfl) (fun _ _ _ h => h) (Or.inl ⟨by rfl, ?_⟩) (by assumption) ?_; rotate_left; (focus (intro w hSw; (try dsimp only at hSw); go_simp; try with_reducible rfl)); (try simp only [Act.put, List.getElem_toArray, List.getElem_cons_succ, List.getElem_cons_zero, List.setIfInBounds_toArray, List.set_cons_zero, List.set_cons_succ])
        refine wpAnyH_ready (rs := [1, 4]) (by kernel_rfl) (by simp) (AllReadyH.cons rfl (fun K hK => ?_) (AllReadyH.cons rfl (fun K hK => ?_) (AllReadyH.nil)))
        · go_simp; refine hK.out _ _ ?_ (fun hHeld => ?_); (focus (exact trivial)); clear hK K; (try simp only [Act.put, List.getElem_toArray, List.getElem_cons_succ, List.getElem_cons_zero, List.setIfInBounds_toArray, List.set_cons_zero, List.set_cons_succ])
          refine wpAnyH_ready (rs := [4]) (by kernel_rfl) (by simp) (AllReadyH.cons rfl (fun K hK => ?_) (AllReadyH.nil))
          go_simp; ((go_at_call 42; refine (Next_any w.heap.size b 3 _ HP.out.src (by omega) (by omega)).mono ?_; rintro e w' ⟨ra, ra0, ra1, rfl, hs, hbut⟩; clear c2; have HP2 := Lib.hid (HP.out.next hs hbut); clear HP; have HP := HP2; clear HP2 hs hbut; have c2 := HP.out.sc.c2; have v1 := IntWalk.i64_in (1 + ra) (by omega); have v2 := IntWalk.i64_in ((1 + ra) * 65536) (by omega); have v3 : ((1 + ra) * 65536).tdiv 8 = (1 + ra) * 8192 := (by rw [Int.tdiv_eq_ediv_of_nonneg (by omega)]; omega); have v4 : (1 + ra) * 65536 / 8 = (1 + ra) * 8192 := (by omega); have v5 := IntWalk.i64_in ((1 + ra) * 8192) (by omega))); go_wp2_with fail; refine hK.out _ _ ?_ (fun hHeld => ?_); (focus (exact trivial)); clear hK K; (try simp only [Act.put, List.getElem_toArray, List.getElem_cons_succ, List.getElem_cons_zero, List.setIfInBounds_toArray, List.set_cons_zero, List.set_cons_succ])
          refine wpAnyH_take (i := 5) (v := ?_) rfl (by kernel_rfl) (by kernel_rfl) (by kernel_rfl) (fun _ _ _ h => h) (Or.inl ⟨by rfl, ?_⟩) (by assumption) ?_; rotate_left; (focus (intro w hSw; (try dsimp only at hSw); go_simp; try with_reducible rfl)); (try simp only [Act.put, List.getElem_toArray, List.getElem_cons_succ, List.getElem_cons_zero, List.setIfInBounds_toArray, List.set_cons_zero, List.set_cons_succ])
          refine wpAnyH_take (i := 6) (v := ?_) rfl (by kernel_rfl) (by kernel_rfl) (by kernel_rfl) (fun _ _ _ h => h) (Or.inl ⟨by rfl, ?_⟩) (by assumption) ?_; rotate_left; (focus (intro w hSw; (try dsimp only at hSw); go_simp; try with_reducible rfl)); (try simp only [Act.put, List.getElem_toArray, List.getElem_cons_succ, List.getElem_cons_zero, List.setIfInBounds_toArray, List.set_cons_zero, List.set_cons_succ])
          refine wpAnyH_take (i := 7) (v := ?_) rfl (by kernel_rfl) (by kernel_rfl) (by kernel_rfl) (fun _ _ _ h => h) (Or.inl ⟨by rfl, ?_⟩) (by assumption) ?_; rotate_left; (focus (intro w hSw; (try dsimp only at hSw); go_simp; try with_reducible rfl)); (try simp only [Act.put, List.getElem_toArray, List.getElem_cons_succ, List.getElem_cons_zero, List.setIfInBounds_toArray, List.set_cons_zero, List.set_cons_succ])
          refine wpAnyH_ready (rs := [10]) (by kernel_rfl) (by simp) (AllReadyH.cons rfl (fun K hK => ?_) (AllReadyH.nil))
          go_simp; ((go_at_call 42; refine (Next_any w.heap.size b 4 _ HP.out.src (by omega) (by omega)).mono ?_; rintro e w' ⟨ca, ca0, ca1, rfl, hs, hbut⟩; clear c2; have HP2 := Lib.hid (HP.out.next hs hbut); clear HP; have HP := HP2; clear HP2 hs hbut; have c2 := HP.out.sc.c2; have v6 := IntWalk.i64_in (ca * 32768) (by omega))); go_wp2_with fail; refine hK.out _ _ ?_ (fun hHeld => ?_); (focus (exact trivial)); clear hK K; (try simp only [Act.put, List.getElem_toArray, List.getElem_cons_succ, List.getElem_cons_zero, List.setIfInBounds_toArray, List.set_cons_zero, List.set_cons_succ])
          refine wpAnyH_take (i := 11) (v := ?_) rfl (by kernel_rfl) (by kernel_rfl) (by kernel_rfl) (fun _ _ _ h => h) (Or.inl ⟨by rfl, ?_⟩) (by assumption) ?_; rotate_left; (focus (intro w hSw; (try dsimp only at hSw); go_simp; try with_reducible rfl)); (try simp only [Act.put, List.getElem_toArray, List.getElem_cons_succ, List.getElem_cons_zero, List.setIfInBounds_toArray, List.set_cons_zero, List.set_cons_succ])
          refine wpAnyH_take (i := 12) (v := ?_) rfl (by kernel_rfl) (by kernel_rfl) (by kernel_rfl) (fun _ _ _ h => h) (Or.inl ⟨by rfl, ?_⟩) (by assumption) ?_; rotate_left; (focus (intro w hSw; (try dsimp only at hSw); go_simp; try with_reducible rfl)); (try simp only [Act.put, List.getElem_toArray, List.getElem_cons_succ, List.getElem_cons_zero, List.setIfInBounds_toArray, List.set_cons_zero, List.set_cons_succ])
          refine wpAnyH_ready (rs := [13]) (by kernel_rfl) (by simp) (AllReadyH.cons rfl (fun K hK => ?_) (AllReadyH.nil))
          go_simp; ((go_at_call 43; refine (points_any w.heap.size b (ca * 32768) (0) (0) _ HP.out.src HP.out.blt (by omega) (by omega) (by omega) (by omega)).mono ?_; rintro e w' ⟨ps, v, rfl, hown, hpl, hpall, hs, hbut⟩; obtain ⟨ap, cp, rfl⟩ := own_slice hown; have HO := Lib.hid (own_lower (base' := b + 1) hown (by have := HP.out.blt; omega)); have HPA := Lib.hid hpall; clear hown hpall c2; have HP2 := Lib.hid (HP.out.next hs hbut); clear HP; have HP := HP2; clear HP2 hs hbut; have c2 := HP.out.sc.c2)); go_wp2_with fail; refine hK.out _ _ ?_ (fun hHeld => ?_); (focus (exact trivial)); clear hK K; (try simp only [Act.put, List.getElem_toArray, List.getElem_cons_succ, List.getElem_cons_zero, List.setIfInBounds_toArray, List.set_cons_zero, List.set_cons_succ])
          refine wpAnyH_take (i := 14) (v := ?_) rfl (by kernel_rfl) (by kernel_rfl) (by kernel_rfl) (fun _ _ _ h => h) (Or.inl ⟨by rfl, ?_⟩) (by assumption) ?_; rotate_left; (focus (intro w hSw; (try dsimp only at hSw); go_simp; try with_reducible rfl)); (try simp only [Act.put, List.getElem_toArray, List.getElem_cons_succ, List.getElem_cons_zero, List.setIfInBounds_toArray, List.set_cons_zero, List.set_cons_succ])
          refine wpAnyH_ready (rs := [15]) (by kernel_rfl) (by simp) (AllReadyH.cons rfl (fun K hK => ?_) (AllReadyH.nil))
          go_simp; refine hK.out _ _ ?_ (fun hHeld => ?_); (focus (exact trivial)); clear hK K; (try simp only [Act.put, List.getElem_toArray, List.getElem_cons_succ, List.getElem_cons_zero, List.setIfInBounds_toArray, List.set_cons_zero, List.set_cons_succ]); have HP2 := Lib.hid (HP.out.alloc (.cells (shpC ⟨k, (1 + ra) * 8192, .slice ap ps.length cp, ps⟩) 88)); clear HP c2; have HP := HP2; clear HP2; have HO2 := Lib.hid (HO.out.alloc (.cells (shpC ⟨k, (1 + ra) * 8192, .slice ap ps.length cp, ps⟩) 88)); clear HO; have HO := HO2; clear HO2; have c2 := HP.out.sc.c2; simp only [shpC] at c2
          refine wpAnyH_ready (rs := [16]) (by kernel_rfl) (by simp) (AllReadyH.cons rfl (fun K hK => ?_) (AllReadyH.nil))
          rw [if_pos (by rfl)]; refine wp_append_own _ (.tmp 25) (.tmp 39) 35 rfl (b + 1) 88 i0 (.agg (shpC ⟨0, 0, .slice none 0 0, []⟩)) 3 40 under_shps SI.out SZ0.out SZ1.out SZ2.out rfl (by decide) _ ss.length (scells ss) rfl HP.out.os ⟨_, 0, none⟩ 1 1 (shpC ⟨k, (1 + ra) * 8192, .slice ap ps.length cp, ps⟩).toList rfl (by rfl) (shp_news _ ⟨k, (1 + ra) * 8192, .slice ap ps.length cp, ps⟩) (shp_ones ⟨k, (1 + ra) * 8192, .slice ap ps.length cp, ps⟩ rfl) (by first | (unfold maxLen; omega) | simp [maxLen]) (by first | omega | simp) HP.out.blt ?_; intro v' w1 hown' hgrow _; obtain ⟨g', cap', rfl⟩ := own_form hown' (by omega); obtain ⟨hsc, hpush⟩ := HP.out.pushS (s := ⟨k, (1 + ra) * 8192, .slice ap ps.length cp, ps⟩) HO.out hown' hgrow; clear HP c2 hown' hgrow; have HP := Lib.hid hpush; have c2 := hsc.c2; have f2 := hsc.free 2; clear hpush hsc; refine hK.out _ _ ?_ (fun hHeld => ?_); (focus (exact trivial)); clear hK K; (try simp only [Act.put, List.getElem_toArray, List.getElem_cons_succ, List.getElem_cons_zero, List.setIfInBounds_toArray, List.set_cons_zero, List.set_cons_succ])
          refine wpAnyH_take (i := 17) (v := ?_) rfl (by kernel_rfl) (by kernel_rfl) (by kernel_rfl) (fun _ _ _ h => h) (Or.inl ⟨by rfl, ?_⟩) (by assumption) ?_; rotate_left; (focus (intro w hSw; (try dsimp only at hSw); go_simp; try with_reducible rfl)); (try simp only [Act.put, List.getElem_toArray, List.getElem_cons_succ, List.getElem_cons_zero, List.setIfInBounds_toArray, List.set_cons_zero, List.set_cons_succ])
          refine wpAnyH_ready (rs := [18]) (by kernel_rfl) (by simp) (AllReadyH.cons rfl (fun K hK => ?_) (AllReadyH.nil))
          go_simp; refine hK.out _ _ ?_ (fun hHeld => ?_); (focus (exact trivial)); clear hK K; (try simp only [Act.put, List.getElem_toArray, List.getElem_cons_succ, List.getElem_cons_zero, List.setIfInBounds_toArray, List.set_cons_zero, List.set_cons_succ])
          refine wpAnyH_done (by kernel_rfl) ?_ _
          go_wp2_with fail
          go_roundw
          case rel => exact ⟨k + 1, ss ++ [⟨k, (1 + ra) * 8192, .slice ap ps.length cp, ps⟩], _, by omega, by go_num, by rw [List.length_append]; simp; omega, fun k hk => all_snoc (P := fun _ s => MadeS js.length s) HALL.out ⟨⟨by dsimp only; omega, by dsimp only; omega⟩, ⟨by dsimp only; omega, by dsimp only; omega⟩, hpl, fun k h => by have := HPA.out k h; unfold MadeP at this; dsimp only at this ⊢; omega⟩ k hk, HP.out⟩
          case measure => simp [intOf]; omega
        · go_simp; ((go_at_call 42; refine (Next_any w.heap.size b 3 _ HP.out.src (by omega) (by omega)).mono ?_; rintro e w' ⟨ra, ra0, ra1, rfl, hs, hbut⟩; clear c2; have HP2 := Lib.hid (HP.out.next hs hbut); clear HP; have HP := HP2; clear HP2 hs hbut; have c2 := HP.out.sc.c2; have v1 := IntWalk.i64_in (1 + ra) (by omega); have v2 := IntWalk.i64_in ((1 + ra) * 65536) (by omega); have v3 : ((1 + ra) * 65536).tdiv 8 = (1 + ra) * 8192 := (by rw [Int.tdiv_eq_ediv_of_nonneg (by omega)]; omega); have v4 : (1 + ra) * 65536 / 8 = (1 + ra) * 8192 := (by omega); have v5 := IntWalk.i64_in ((1 + ra) * 8192) (by omega))); go_wp2_with fail; refine hK.out _ _ ?_ (fun hHeld => ?_); (focus (exact trivial)); clear hK K; (try simp only [Act.put, List.getElem_toArray, List.getElem_cons_succ, List.getElem_cons_zero, List.setIfInBounds_toArray, List.set_cons_zero, List.set_cons_succ])
          refine wpAnyH_take (i := 5) (v := ?_) rfl (by kernel_rfl) (by kernel_rfl) (by kernel_rfl) (fun _ _ _ h => h) (Or.inl ⟨by rfl, ?_⟩) (by assumption) ?_; rotate_left; (focus (intro w hSw; (try dsimp only at hSw); go_simp; try with_reducible rfl)); (try simp only [Act.put, List.getElem_toArray, List.getElem_cons_succ, List.getElem_cons_zero, List.setIfInBounds_toArray, List.set_cons_zero, List.set_cons_succ])
          refine wpAnyH_take (i := 6) (v := ?_) rfl (by kernel_rfl) (by kernel_rfl) (by kernel_rfl) (fun _ _ _ h => h) (Or.inl ⟨by rfl, ?_⟩) (by assumption) ?_; rotate_left; (focus (intro w hSw; (try dsimp only at hSw); go_simp; try with_reducible rfl)); (try simp only [Act.put, List.getElem_toArray, List.getElem_cons_succ, List.getElem_cons_zero, List.setIfInBounds_toArray, List.set_cons_zero, List.set_cons_succ])
          refine wpAnyH_take (i := 7) (v := ?_) rfl (by kernel_rfl) (by kernel_rfl) (by kernel_rfl) (fun _ _ _ h => h) (Or.inl ⟨by rfl, ?_⟩) (by assumption) ?_; rotate_left; (focus (intro w hSw; (try dsimp only at hSw); go_simp; try with_reducible rfl)); (try simp only [Act.put, List.getElem_toArray, List.getElem_cons_succ, List.getElem_cons_zero, List.setIfInBounds_toArray, List.set_cons_zero, List.set_cons_succ])
          refine wpAnyH_ready (rs := [1, 10]) (by kernel_rfl) (by simp) (AllReadyH.cons rfl (fun K hK => ?_) (AllReadyH.cons rfl (fun K hK => ?_) (AllReadyH.nil)))
          · go_simp; refine hK.out _ _ ?_ (fun hHeld => ?_); (focus (exact trivial)); clear hK K; (try simp only [Act.put, List.getElem_toArray, List.getElem_cons_succ, List.getElem_cons_zero, List.setIfInBounds_toArray, List.set_cons_zero, List.set_cons_succ])
            refine wpAnyH_ready (rs := [10]) (by kernel_rfl) (by simp) (AllReadyH.cons rfl (fun K hK => ?_) (AllReadyH.nil))
            go_simp; ((go_at_call 42; refine (Next_any w.heap.size b 4 _ HP.out.src (by omega) (by omega)).mono ?_; rintro e w' ⟨ca, ca0, ca1, rfl, hs, hbut⟩; clear c2; have HP2 := Lib.hid (HP.out.next hs hbut); clear HP; have HP := HP2; clear HP2 hs hbut; have c2 := HP.out.sc.c2; have v6 := IntWalk.i64_in (ca * 32768) (by omega))); go_wp2_with fail; refine hK.out _ _ ?_ (fun hHeld => ?_); (focus (exact trivial)); clear hK K; (try simp only [Act.put, List.getElem_toArray, List.getElem_cons_succ, List.getElem_cons_zero, List.setIfInBounds_toArray, List.set_cons_zero, List.set_cons_succ])
            refine wpAnyH_take (i := 11) (v := ?_) rfl (by kernel_rfl) (by kernel_rfl) (by kernel_rfl) (fun _ _ _ h => h) (Or.inl ⟨by rfl, ?_⟩) (by assumption) ?_; rotate_left; (focus (intro w hSw; (try dsimp only at hSw); go_simp; try with_reducible rfl)); (try simp only [Act.put, List.getElem_toArray, List.getElem_cons_succ, List.getElem_cons_zero, List.setIfInBounds_toArray, List.set_cons_zero, List.set_cons_succ])
            refine wpAnyH_take (i := 12) (v := ?_) rfl (by kernel_rfl) (by kernel_rfl) (by kernel_rfl) (fun _ _ _ h => h) (Or.inl ⟨by rfl, ?_⟩) (by assumption) ?_; rotate_left; (focus (intro w hSw; (try dsimp only at hSw); go_simp; try with_reducible rfl)); (try simp only [Act.put, List.getElem_toArray, List.getElem_cons_succ, List.getElem_cons_zero, List.setIfInBounds_toArray, List.set_cons_zero, List.set_cons_succ])
            refine wpAnyH_ready (rs := [13]) (by kernel_rfl) (by simp) (AllReadyH.cons rfl (fun K hK => ?_) (AllReadyH.nil))
            go_simp; ((go_at_call 43; refine (points_any w.heap.size b (ca * 32768) (0) (0) _ HP.out.src HP.out.blt (by omega) (by omega) (by omega) (by omega)).mono ?_; rintro e w' ⟨ps, v, rfl, hown, hpl, hpall, hs, hbut⟩; obtain ⟨ap, cp, rfl⟩ := own_slice hown; have HO := Lib.hid (own_lower (base' := b + 1) hown (by have := HP.out.blt; omega)); have HPA := Lib.hid hpall; clear hown hpall c2; have HP2 := Lib.hid (HP.out.next hs hbut); clear HP; have HP := HP2; clear HP2 hs hbut; have c2 := HP.out.sc.c2)); go_wp2_with fail; refine hK.out _ _ ?_ (fun hHeld => ?_); (focus (exact trivial)); clear hK K; (try simp only [Act.put, List.getElem_toArray, List.getElem_cons_succ, List.getElem_cons_zero, List.setIfInBounds_toArray, List.set_cons_zero, List.set_cons_succ])
            refine wpAnyH_take (i := 14) (v := ?_) rfl (by kernel_rfl) (by kernel_rfl) (by kernel_rfl) (fun _ _ _ h => h) (Or.inl ⟨by rfl, ?_⟩) (by assumption) ?_; rotate_left; (focus (intro w hSw; (try dsimp only at hSw); go_simp; try with_reducible rfl)); (try simp only [Act.put, List.getElem_toArray, List.getElem_cons_succ, List.getElem_cons_zero, List.setIfInBounds_toArray, List.set_cons_zero, List.set_cons_succ])
            refine wpAnyH_ready (rs := [15]) (by kernel_rfl) (by simp) (AllReadyH.cons rfl (fun K hK => ?_) (AllReadyH.nil))
            go_simp; refine hK.out _ _ ?_ (fun hHeld => ?_); (focus (exact trivial)); clear hK K; (try simp only [Act.put, List.getElem_toArray, List.getElem_cons_succ, List.getElem_cons_zero, List.setIfInBounds_toArray, List.set_cons_zero, List.set_cons_succ]); have HP2 := Lib.hid (HP.out.alloc (.cells (shpC ⟨k, (1 + ra) * 8192, .slice ap ps.length cp, ps⟩) 88)); clear HP c2; have HP := HP2; clear HP2; have HO2 := Lib.hid (HO.out.alloc (.cells (shpC ⟨k, (1 + ra) * 8192, .slice ap ps.length cp, ps⟩) 88)); clear HO; have HO := HO2; clear HO2; have c2 := HP.out.sc.c2; simp only [shpC] at c2
            refine wpAnyH_ready (rs := [16]) (by kernel_rfl) (by simp) (AllReadyH.cons rfl (fun K hK => ?_) (AllReadyH.nil))
            rw [if_pos (by rfl)]; refine wp_append_own _ (.tmp 25) (.tmp 39) 35 rfl (b + 1) 88 i0 (.agg (shpC ⟨0, 0, .slice none 0 0, []⟩)) 3 40 under_shps SI.out SZ0.out SZ1.out SZ2.out rfl (by decide) _ ss.length (scells ss) rfl HP.out.os ⟨_, 0, none⟩ 1 1 (shpC ⟨k, (1 + ra) * 8192, .slice ap ps.length cp, ps⟩).toList rfl (by rfl) (shp_news _ ⟨k, (1 + ra) * 8192, .slice ap ps.length cp, ps⟩) (shp_ones ⟨k, (1 + ra) * 8192, .slice ap ps.length cp, ps⟩ rfl) (by first | (unfold maxLen; omega) | simp [maxLen]) (by first | omega | simp) HP.out.blt ?_; intro v' w1 hown' hgrow _; obtain ⟨g', cap', rfl⟩ := own_form hown' (by omega); obtain ⟨hsc, hpush⟩ := HP.out.pushS (s := ⟨k, (1 + ra) * 8192, .slice ap ps.length cp, ps⟩) HO.out hown' hgrow; clear HP c2 hown' hgrow; have HP := Lib.hid hpush; have c2 := hsc.c2; have f2 := hsc.free 2; clear hpush hsc; refine hK.out _ _ ?_ (fun hHeld => ?_); (focus (exact trivial)); clear hK K; (try simp only [Act.put, List.getElem_toArray, List.getElem_cons_succ, List.getElem_cons_zero, List.setIfInBounds_toArray, List.set_cons_zero, List.set_cons_succ])
            refine wpAnyH_take (i := 17) (v := ?_) rfl (by kernel_rfl) (by kernel_rfl) (by kernel_rfl) (fun _ _ _ h => h) (Or.inl ⟨by rfl, ?_⟩) (by assumption) ?_; rotate_left; (focus (intro w hSw; (try dsimp only at hSw); go_simp; try with_reducible rfl)); (try simp only [Act.put, List.getElem_toArray, List.getElem_cons_succ, List.getElem_cons_zero, List.setIfInBounds_toArray, List.set_cons_zero, List.set_cons_succ])
            refine wpAnyH_ready (rs := [18]) (by kernel_rfl) (by simp) (AllReadyH.cons rfl (fun K hK => ?_) (AllReadyH.nil))
            go_simp; refine hK.out _ _ ?_ (fun hHeld => ?_); (focus (exact trivial)); clear hK K; (try simp only [Act.put, List.getElem_toArray, List.getElem_cons_succ, List.getElem_cons_zero, List.setIfInBounds_toArray, List.set_cons_zero, List.set_cons_succ])
            refine wpAnyH_done (by kernel_rfl) ?_ _
            go_wp2_with fail
            go_roundw
            case rel => exact ⟨k + 1, ss ++ [⟨k, (1 + ra) * 8192, .slice ap ps.length cp, ps⟩], _, by omega, by go_num, by rw [List.length_append]; simp; omega, fun k hk => all_snoc (P := fun _ s => MadeS js.length s) HALL.out ⟨⟨by dsimp only; omega, by dsimp only; omega⟩, ⟨by dsimp only; omega, by dsimp only; omega⟩, hpl, fun k h => by have := HPA.out k h; unfold MadeP at this; dsimp only at this ⊢; omega⟩ k hk, HP.out⟩
            case measure => simp [intOf]; omega
          · go_simp; ((go_at_call 42; refine (Next_any w.heap.size b 4 _ HP.out.src (by omega) (by omega)).mono ?_; rintro e w' ⟨ca, ca0, ca1, rfl, hs, hbut⟩; clear c2; have HP2 := Lib.hid (HP.out.next hs hbut); clear HP; have HP := HP2; clear HP2 hs hbut; have c2 := HP.out.sc.c2; have v6 := IntWalk.i64_in (ca * 32768) (by omega))); go_wp2_with fail; refine hK.out _ _ ?_ (fun hHeld => ?_); (focus (exact trivial)); clear hK K; (try simp only [Act.put, List.getElem_toArray, List.getElem_cons_succ, List.getElem_cons_zero, List.setIfInBounds_toArray, List.set_cons_zero, List.set_cons_succ])
            refine wpAnyH_take (i := 11) (v := ?_) rfl (by kernel_rfl) (by kernel_rfl) (by kernel_rfl) (fun _ _ _ h => h) (Or.inl ⟨by rfl, ?_⟩) (by assumption) ?_; rotate_left; (focus (intro w hSw; (try dsimp only at hSw); go_simp; try with_reducible rfl)); (try simp only [Act.put, List.getElem_toArray, List.getElem_cons_succ, List.getElem_cons_zero, List.setIfInBounds_toArray, List.set_cons_zero, List.set_cons_succ])
            refine wpAnyH_take (i := 12) (v := ?_) rfl (by kernel_rfl) (by kernel_rfl) (by kernel_rfl) (fun _ _ _ h => h) (Or.inl ⟨by rfl, ?_⟩) (by assumption) ?_; rotate_left; (focus (intro w hSw; (try dsimp only at hSw); go_simp; try with_reducible rfl)); (try simp only [Act.put, List.getElem_toArray, List.getElem_cons_succ, List.getElem_cons_zero, List.setIfInBounds_toArray, List.set_cons_zero, List.set_cons_succ])
            refine wpAnyH_ready (rs := [1, 13]) (by kernel_rfl) (by simp) (AllReadyH.cons rfl (fun K hK => ?_) (AllReadyH.cons rfl (fun K hK => ?_) (AllReadyH.nil)))
            · go_simp; refine hK.out _ _ ?_ (fun hHeld => ?_); (focus (exact trivial)); clear hK K; (try simp only [Act.put, List.getElem_toArray, List.getElem_cons_succ, List.getElem_cons_zero, List.setIfInBounds_toArray, List.set_cons_zero, List.set_cons_succ])
              refine wpAnyH_ready (rs := [13]) (by kernel_rfl) (by simp) (AllReadyH.cons rfl (fun K hK => ?_) (AllReadyH.nil))
              go_simp; ((go_at_call 43; refine (points_any w.heap.size b (ca * 32768) (0) (0) _ HP.out.src HP.out.blt (by omega) (by omega) (by omega) (by omega)).mono ?_; rintro e w' ⟨ps, v, rfl, hown, hpl, hpall, hs, hbut⟩; obtain ⟨ap, cp, rfl⟩ := own_slice hown; have HO := Lib.hid (own_lower (base' := b + 1) hown (by have := HP.out.blt; omega)); have HPA := Lib.hid hpall; clear hown hpall c2; have HP2 := Lib.hid (HP.out.next hs hbut); clear HP; have HP := HP2; clear HP2 hs hbut; have c2 := HP.out.sc.c2)); go_wp2_with fail; refine hK.out _ _ ?_ (fun hHeld => ?_); (focus (exact trivial)); clear hK K; (try simp only [Act.put, List.getElem_toArray, List.getElem_cons_succ, List.getElem_cons_zero, List.setIfInBounds_toArray, List.set_cons_zero, List.set_cons_succ])
              refine wpAnyH_take (i := 14) (v := ?_) rfl (by kernel_rfl) (by kernel_rfl) (by kernel_rfl) (fun _ _ _ h => h) (Or.inl ⟨by rfl, ?_⟩) (by assumption) ?_; rotate_left; (focus (intro w hSw; (try dsimp only at hSw); go_simp; try with_reducible rfl)); (try simp only [Act.put, List.getElem_toArray, List.getElem_cons_succ, List.getElem_cons_zero, List.setIfInBounds_toArray, List.set_cons_zero, List.set_cons_succ])
              refine wpAnyH_ready (rs := [15]) (by kernel_rfl) (by simp) (AllReadyH.cons rfl (fun K hK => ?_) (AllReadyH.nil))
              go_simp; refine hK.out _ _ ?_ (fun hHeld => ?_); (focus (exact trivial)); clear hK K; (try simp only [Act.put, List.getElem_toArray, List.getElem_cons_succ, List.getElem_cons_zero, List.setIfInBounds_toArray, List.set_cons_zero, List.set_cons_succ]); have HP2 := Lib.hid (HP.out.alloc (.cells (shpC ⟨k, (1 + ra) * 8192, .slice ap ps.length cp, ps⟩) 88)); clear HP c2; have HP := HP2; clear HP2; have HO2 := Lib.hid (HO.out.alloc (.cells (shpC ⟨k, (1 + ra) * 8192, .slice ap ps.length cp, ps⟩) 88)); clear HO; have HO := HO2; clear HO2; have c2 := HP.out.sc.c2; simp only [shpC] at c2
              refine wpAnyH_ready (rs := [16]) (by kernel_rfl) (by simp) (AllReadyH.cons rfl (fun K hK => ?_) (AllReadyH.nil))
              rw [if_pos (by rfl)]; refine wp_append_own _ (.tmp 25) (.tmp 39) 35 rfl (b + 1) 88 i0 (.agg (shpC ⟨0, 0, .slice none 0 0, []⟩)) 3 40 under_shps SI.out SZ0.out SZ1.out SZ2.out rfl (by decide) _ ss.length (scells ss) rfl HP.out.os ⟨_, 0, none⟩ 1 1 (shpC ⟨k, (1 + ra) * 8192, .slice ap ps.length cp, ps⟩).toList rfl (by rfl) (shp_news _ ⟨k, (1 + ra) * 8192, .slice ap ps.length cp, ps⟩) (shp_ones ⟨k, (1 + ra) * 8192, .slice ap ps.length cp, ps⟩ rfl) (by first | (unfold maxLen; omega) | simp [maxLen]) (by first | omega | simp) HP.out.blt ?_; intro v' w1 hown' hgrow _; obtain ⟨g', cap', rfl⟩ := own_form hown' (by omega); obtain ⟨hsc, hpush⟩ := HP.out.pushS (s := ⟨k, (1 + ra) * 8192, .slice ap ps.length cp, ps⟩) HO.out hown' hgrow; clear HP c2 hown' hgrow; have HP := Lib.hid hpush; have c2 := hsc.c2; have f2 := hsc.free 2; clear hpush hsc; refine hK.out _ _ ?_ (fun hHeld => ?_); (focus (exact trivial)); clear hK K; (try simp only [Act.put, List.getElem_toArray, List.getElem_cons_succ, List.getElem_cons_zero, List.setIfInBounds_toArray, List.set_cons_zero, List.set_cons_succ])
              refine wpAnyH_take (i := 17) (v := ?_) rfl (by kernel_rfl) (by kernel_rfl) (by kernel_rfl) (fun _ _ _ h => h) (Or.inl ⟨by rfl, ?_⟩) (by assumption) ?_; rotate_left; (focus (intro w hSw; (try dsimp only at hSw); go_simp; try with_reducible rfl)); (try simp only [Act.put, List.getElem_toArray, List.getElem_cons_succ, List.getElem_cons_zero, List.setIfInBounds_toArray, List.set_cons_zero, List.set_cons_succ])
              refine wpAnyH_ready (rs := [18]) (by kernel_rfl) (by simp) (AllReadyH.cons rfl (fun K hK => ?_) (AllReadyH.nil))
              go_simp; refine hK.out _ _ ?_ (fun hHeld => ?_); (focus (exact trivial)); clear hK K; (try simp only [Act.put, List.getElem_toArray, List.getElem_cons_succ, List.getElem_cons_zero, List.setIfInBounds_toArray, List.set_cons_zero, List.set_cons_succ])
              refine wpAnyH_done (by kernel_rfl) ?_ _
              go_wp2_with fail
              go_roundw
              case rel => exact ⟨k + 1, ss ++ [⟨k, (1 + ra) * 8192, .slice ap ps.length cp, ps⟩], _, by omega, by go_num, by rw [List.length_append]; simp; omega, fun k hk => all_snoc (P := fun _ s => MadeS js.length s) HALL.out ⟨⟨by dsimp only; omega, by dsimp only; omega⟩, ⟨by dsimp only; omega, by dsimp only; omega⟩, hpl, fun k h => by have := HPA.out k h; unfold MadeP at this; dsimp only at this ⊢; omega⟩ k hk, HP.out⟩
              case measure => simp [intOf]; omega
            · go_simp; ((go_at_call 43; refine (points_any w.heap.size b (ca * 32768) (0) (0) _ HP.out.src HP.out.blt (by omega) (by omega) (by omega) (by omega)).mono ?_; rintro e w' ⟨ps, v, rfl, hown, hpl, hpall, hs, hbut⟩; obtain ⟨ap, cp, rfl⟩ := own_slice hown; have HO := Lib.hid (own_lower (base' := b + 1) hown (by have := HP.out.blt; omega)); have HPA := Lib.hid hpall; clear hown hpall c2; have HP2 := Lib.hid (HP.out.next hs hbut); clear HP; have HP := HP2; clear HP2 hs hbut; have c2 := HP.out.sc.c2)); go_wp2_with fail; refine hK.out _ _ ?_ (fun hHeld => ?_); (focus (exact trivial)); clear hK K; (try simp only [Act.put, List.getElem_toArray, List.getElem_cons_succ, List.getElem_cons_zero, List.setIfInBounds_toArray, List.set_cons_zero, List.set_cons_succ])
              refine wpAnyH_take (i := 14) (v := ?_) rfl (by kernel_rfl) (by kernel_rfl) (by kernel_rfl) (fun _ _ _ h => h) (Or.inl ⟨by rfl, ?_⟩) (by assumption) ?_; rotate_left; (focus (intro w hSw; (try dsimp only at hSw); go_simp; try with_reducible rfl)); (try simp only [Act.put, List.getElem_toArray, List.getElem_cons_succ, List.getElem_cons_zero, List.setIfInBounds_toArray, List.set_cons_zero, List.set_cons_succ])
              refine wpAnyH_ready (rs := [1, 15]) (by kernel_rfl) (by simp) (AllReadyH.cons rfl (fun K hK => ?_) (AllReadyH.cons rfl (fun K hK => ?_) (AllReadyH.nil)))
              · go_simp; refine hK.out _ _ ?_ (fun hHeld => ?_); (focus (exact trivial)); clear hK K; (try simp only [Act.put, List.getElem_toArray, List.getElem_cons_succ, List.getElem_cons_zero, List.setIfInBounds_toArray, List.set_cons_zero, List.set_cons_succ])
                refine wpAnyH_ready (rs := [15]) (by kernel_rfl) (by simp) (AllReadyH.cons rfl (fun K hK => ?_) (AllReadyH.nil))
                go_simp; refine hK.out _ _ ?_ (fun hHeld => ?_); (focus (exact trivial)); clear hK K; (try simp only [Act.put, List.getElem_toArray, List.getElem_cons_succ, List.getElem_cons_zero, List.setIfInBounds_toArray, List.set_cons_zero, List.set_cons_succ]); have HP2 := Lib.hid (HP.out.alloc (.cells (shpC ⟨k, (1 + ra) * 8192, .slice ap ps.length cp, ps⟩) 88)); clear HP c2; have HP := HP2; clear HP2; have HO2 := Lib.hid (HO.out.alloc (.cells (shpC ⟨k, (1 + ra) * 8192, .slice ap ps.length cp, ps⟩) 88)); clear HO; have HO := HO2; clear HO2; have c2 := HP.out.sc.c2; simp only [shpC] at c2
                refine wpAnyH_ready (rs := [16]) (by kernel_rfl) (by simp) (AllReadyH.cons rfl (fun K hK => ?_) (AllReadyH.nil))
                rw [if_pos (by rfl)]; refine wp_append_own _ (.tmp 25) (.tmp 39) 35 rfl (b + 1) 88 i0 (.agg (shpC ⟨0, 0, .slice none 0 0, []⟩)) 3 40 under_shps SI.out SZ0.out SZ1.out SZ2.out rfl (by decide) _ ss.length (scells ss) rfl HP.out.os ⟨_, 0, none⟩ 1 1 (shpC ⟨k, (1 + ra) * 8192, .slice ap ps.length cp, ps⟩).toList rfl (by rfl) (shp_news _ ⟨k, (1 + ra) * 8192, .slice ap ps.length cp, ps⟩) (shp_ones ⟨k, (1 + ra) * 8192, .slice ap ps.length cp, ps⟩ rfl) (by first | (unfold maxLen; omega) | simp [maxLen]) (by first | omega | simp) HP.out.blt ?_; intro v' w1 hown' hgrow _; obtain ⟨g', cap', rfl⟩ := own_form hown' (by omega); obtain ⟨hsc, hpush⟩ := HP.out.pushS (s := ⟨k, (1 + ra) * 8192, .slice ap ps.length cp, ps⟩) HO.out hown' hgrow; clear HP c2 hown' hgrow; have HP := Lib.hid hpush; have c2 := hsc.c2; have f2 := hsc.free 2; clear hpush hsc; refine hK.out _ _ ?_ (fun hHeld => ?_); (focus (exact trivial)); clear hK K; (try simp only [Act.put, List.getElem_toArray, List.getElem_cons_succ, List.getElem_cons_zero, List.setIfInBounds_toArray, List.set_cons_zero, List.set_cons_succ])
                refine wpAnyH_take (i := 17) (v := ?_) rfl (by kernel_rfl) (by kernel_rfl) (by kernel_rfl) (fun _ _ _ h => h) (Or.inl ⟨by rfl, ?_⟩) (by assumption) ?_; rotate_left; (focus (intro w hSw; (try dsimp only at hSw); go_simp; try with_reducible rfl)); (try simp only [Act.put, List.getElem_toArray, List.getElem_cons_succ, List.getElem_cons_zero, List.setIfInBounds_toArray, List.set_cons_zero, List.set_cons_succ])
                refine wpAnyH_ready (rs := [18]) (by kernel_rfl) (by simp) (AllReadyH.cons rfl (fun K hK => ?_) (AllReadyH.nil))
                go_simp; refine hK.out _ _ ?_ (fun hHeld => ?_); (focus (exact trivial)); clear hK K; (try simp only [Act.put, List.getElem_toArray, List.getElem_cons_succ, List.getElem_cons_zero, List.setIfInBounds_toArray, List.set_cons_zero, List.set_cons_succ])
                refine wpAnyH_done (by kernel_rfl) ?_ _
                go_wp2_with fail
                go_roundw
                case rel => exact ⟨k + 1, ss ++ [⟨k, (1 + ra) * 8192, .slice ap ps.length cp, ps⟩], _, by omega, by go_num, by rw [List.length_append]; simp; omega, fun k hk => all_snoc (P := fun _ s => MadeS js.length s) HALL.out ⟨⟨by dsimp only; omega, by dsimp only; omega⟩, ⟨by dsimp only; omega, by dsimp only; omega⟩, hpl, fun k h => by have := HPA.out k h; unfold MadeP at this; dsimp only at this ⊢; omega⟩ k hk, HP.out⟩
                case measure => simp [intOf]; omega
              · go_simp; refine hK.out _ _ ?_ (fun hHeld => ?_); (focus (exact trivial)); clear hK K; (try simp only [Act.put, List.getElem_toArray, List.getElem_cons_succ, List.getElem_cons_zero, List.setIfInBounds_toArray, List.set_cons_zero, List.set_cons_succ]); have HP2 := Lib.hid (HP.out.alloc (.cells (shpC ⟨k, (1 + ra) * 8192, .slice ap ps.length cp, ps⟩) 88)); clear HP c2; have HP := HP2; clear HP2; have HO2 := Lib.hid (HO.out.alloc (.cells (shpC ⟨k, (1 + ra) * 8192, .slice ap ps.length cp, ps⟩) 88)); clear HO; have HO := HO2; clear HO2; have c2 := HP.out.sc.c2; simp only [shpC] at c2
                refine wpAnyH_ready (rs := [1]) (by kernel_rfl) (by simp) (AllReadyH.cons rfl (fun K hK => ?_) (AllReadyH.nil))
                go_simp; refine hK.out _ _ ?_ (fun hHeld => ?_); (focus (exact trivial)); clear hK K; (try simp only [Act.put, List.getElem_toArray, List.getElem_cons_succ, List.getElem_cons_zero, List.setIfInBounds_toArray, List.set_cons_zero, List.set_cons_succ])
                refine wpAnyH_ready (rs := [16]) (by kernel_rfl) (by simp) (AllReadyH.cons rfl (fun K hK => ?_) (AllReadyH.nil))
                rw [if_pos (by rfl)]; refine wp_append_own _ (.tmp 25) (.tmp 39) 35 rfl (b + 1) 88 i0 (.agg (shpC ⟨0, 0, .slice none 0 0, []⟩)) 3 40 under_shps SI.out SZ0.out SZ1.out SZ2.out rfl (by decide) _ ss.length (scells ss) rfl HP.out.os ⟨_, 0, none⟩ 1 1 (shpC ⟨k, (1 + ra) * 8192, .slice ap ps.length cp, ps⟩).toList rfl (by rfl) (shp_news _ ⟨k, (1 + ra) * 8192, .slice ap ps.length cp, ps⟩) (shp_ones ⟨k, (1 + ra) * 8192, .slice ap ps.length cp, ps⟩ rfl) (by first | (unfold maxLen; omega) | simp [maxLen]) (by first | omega | simp) HP.out.blt ?_; intro v' w1 hown' hgrow _; obtain ⟨g', cap', rfl⟩ := own_form hown' (by omega); obtain ⟨hsc, hpush⟩ := HP.out.pushS (s := ⟨k, (1 + ra) * 8192, .slice ap ps.length cp, ps⟩) HO.out hown' hgrow; clear HP c2 hown' hgrow; have HP := Lib.hid hpush; have c2 := hsc.c2; have f2 := hsc.free 2; clear hpush hsc; refine hK.out _ _ ?_ (fun hHeld => ?_); (focus (exact trivial)); clear hK K; (try simp only [Act.put, List.getElem_toArray, List.getElem_cons_succ, List.getElem_cons_zero, List.setIfInBounds_toArray, List.set_cons_zero, List.set_cons_succ])
                refine wpAnyH_take (i := 17) (v := ?_) rfl (by kernel_rfl) (by kernel_rfl) (by kernel_rfl) (fun _ _ _ h => h) (Or.inl ⟨by rfl, ?_⟩) (by assumption) ?_; rotate_left; (focus (intro w hSw; (try dsimp only at hSw); go_simp; try with_reducible rfl)); (try simp only [Act.put, List.getElem_toArray, List.getElem_cons_succ, List.getElem_cons_zero, List.setIfInBounds_toArray, List.set_cons_zero, List.set_cons_succ])
                refine wpAnyH_ready (rs := [18]) (by kernel_rfl) (by simp) (AllReadyH.cons rfl (fun K hK => ?_) (AllReadyH.nil))
                go_simp; refine hK.out _ _ ?_ (fun hHeld => ?_); (focus (exact trivial)); clear hK K; (try simp only [Act.put, List.getElem_toArray, List.getElem_cons_succ, List.getElem_cons_zero, List.setIfInBounds_toArray, List.set_cons_zero, List.set_cons_succ])
                refine wpAnyH_done (by kernel_rfl) ?_ _
                go_wp2_with fail
                go_roundw
                case rel => exact ⟨k + 1, ss ++ [⟨k, (1 + ra) * 8192, .slice ap ps.length cp, ps⟩], _, by omega, by go_num, by rw [List.length_append]; simp; omega, fun k hk => all_snoc (P := fun _ s => MadeS js.length s) HALL.out ⟨⟨by dsimp only; omega, by dsimp only; omega⟩, ⟨by dsimp only; omega, by dsimp only; omega⟩, hpl, fun k h => by have := HPA.out k h; unfold MadeP at this; dsimp only at this ⊢; omega⟩ k hk, HP.out⟩
                case measure => simp [intOf]; omega
      · go_wp2_with fail
        go_roundw
        case rel => exact ⟨k + 1, ss, vs, by omega, by go_num, by omega, HALL.out, HP.out⟩
        case measure => simp [intOf]; omega
    · go_wp2_with fail
      clear hlt c0
      refine (Next_any w.heap.size b 3 _ HP.out.src (by omega) (by omega)).mono ?_
      rintro e w' ⟨r, r0, r1, rfl, hs, hbut⟩
      have HP2 := Lib.hid (HP.out.next hs hbut); clear HP; have HP := HP2; clear HP2 hs hbut
      go_wp2_with fail
      go_loopw [6] (fun i wr => ∃ (c : Int) (ss : List ShpD) (vs : Value), 0 ≤ c ∧ ss.length + c ≤ 6 ∧ i = .int .i64 c ∧ (∀ k (h : k < ss.length), MadeS js.length ss[k]) ∧ PS b q w wr js ms ss [] (.slice aj js.length cj) (.slice am ms.length cm) vs (.slice none 0 0)) (fun i _ => (intOf i).toNat)
      case atStart => exact ⟨1 + r, ss, vs, by omega, by omega, rfl, HALL.out, HP.out⟩
      case round =>
        obtain ⟨c, ss, vs, hc0, hcl, rfl, hall, hp⟩ := hrel
        clear HP HALL hsl
        have HALL := Lib.hid hall
        have HP := Lib.hid hp
        clear hall hp
        by_cases hlt : 0 < c
        · go_wp2_with fail
          refine (Signed_any w.heap.size b 9 _ HP.out.src (by omega) (by omega)).mono ?_
          rintro e w' ⟨x, x0, x1, rfl, hs, hbut⟩
          have HP2 := Lib.hid (HP.out.next hs hbut); clear HP; have HP := HP2; clear HP2 hs hbut
          go_wp2_with fail
          refine (Signed_any w.heap.size b 9 _ HP.out.src (by omega) (by omega)).mono ?_
          rintro e w' ⟨y, y0, y1, rfl, hs, hbut⟩
          have HP2 := Lib.hid (HP.out.next hs hbut); clear HP; have HP := HP2; clear HP2 hs hbut
          go_wp2_with fail
          refine (Signed_any w.heap.size b 2 _ HP.out.src (by omega) (by omega)).mono ?_
          rintro e w' ⟨z, z0, z1, rfl, hs, hbut⟩
          have HP2 := Lib.hid (HP.out.next hs hbut); clear HP; have HP := HP2; clear HP2 hs hbut
          go_wp2_with fail
          have HG := Lib.hid (show PntB (w'.alloc (.cells (pntC ⟨x * 32768, y * 32768, z * 32768⟩) 58)) w'.heap.size ⟨x * 32768, y * 32768, z * 32768⟩ from heap_alloc_new _ _)
          have HP2 := Lib.hid (HP.out.alloc (.cells (pntC ⟨x * 32768, y * 32768, z * 32768⟩) 58)).drew
          have hqg := HP.out.sc.lt
          have hbg := HP.out.blt
          clear HP
          have HP := HP2
          clear HP2
          simp only [pntC] at HP HG
          obtain ⟨g, hg⟩ : ∃ g, w'.heap.size = g := ⟨_, rfl⟩
          obtain ⟨U2, hU2⟩ : ∃ U2, w'.alloc (.cells #[.int .i64 (x * 32768), .int .i64 (y * 32768), .int .i64 (z * 32768)] 58) = U2 := ⟨_, rfl⟩
          rw [hg] at hqg hbg HG
          rw [hU2] at HP HG
          rw [hg, hU2]
          clear hg hU2
          have HG2 := Lib.hid (show PntB U2.drew g ⟨x * 32768, y * 32768, z * 32768⟩ from HG.out)
          clear HG
          have HG := HG2
          clear HG2
          have c2 := HP.out.sc.c2
          refine wp_region_held_drew (S := (fun w3 => w3.cell? ⟨g, 0, none⟩ = some (.int .i64 (x * 32768)) ∧ w3.cell? ⟨g, 1, none⟩ = some (.int .i64 (y * 32768)) ∧ w3.cell? ⟨g, 2, none⟩ = some (.int .i64 (z * 32768)))) (by kernel_rfl) ?_ (fun hHeld => ?_)
          focus (first | exact HG.out.cells | exact (HG.out.alloc _).cells | exact (HG.out.far (by omega)).cells)
          refine wpAnyH_take (i := 0) (v := ?_) rfl (by kernel_rfl) (by kernel_rfl) (by kernel_rfl) (fun _ _ _ h => h) (Or.inl ⟨by rfl, ?_⟩) (by assumption) ?_; rotate_left; (focus (intro w hSw; (try dsimp only at hSw); go_simp; try with_reducible rfl)); (try simp only [Act.put, List.getElem_toArray, List.getElem_cons_succ, List.getElem_cons_zero, List.setIfInBounds_toArray, List.set_cons_zero, List.set_cons_succ])
          refine wpAnyH_take (i := 2) (v := ?_) rfl (by kernel_rfl) (by kernel_rfl) (by kernel_rfl) (fun _ _ _ h => h) (Or.inl ⟨by rfl, ?_⟩) (by assumption) ?_; rotate_left; (focus (intro w hSw; (try dsimp only at hSw); go_simp; try with_reducible rfl)); (try simp only [Act.put, List.getElem_toArray, List.getElem_cons_succ, List.getElem_cons_zero, List.setIfInBounds_toArray, List.set_cons_zero, List.set_cons_succ])
          refine wpAnyH_take (i := 7) (v := ?_) rfl (by kernel_rfl) (by kernel_rfl) (by kernel_rfl) (fun _ _ _ h => h) (Or.inl ⟨by rfl, ?_⟩) (by assumption) ?_; rotate_left; (focus (intro w hSw; (try dsimp only at hSw); go_simp; try with_reducible rfl)); (try simp only [Act.put, List.getElem_toArray, List.getElem_cons_succ, List.getElem_cons_zero, List.setIfInBounds_toArray, List.set_cons_zero, List.set_cons_succ])
          refine wpAnyH_take (i := 8) (v := ?_) rfl (by kernel_rfl) (by kernel_rfl) (by kernel_rfl) (fun _ _ _ h => h) (Or.inl ⟨by rfl, ?_⟩) (by assumption) ?_; rotate_left; (focus (intro w hSw; (try dsimp only at hSw); go_simp; try with_reducible rfl)); (try simp only [Act.put, List.getElem_toArray, List.getElem_cons_succ, List.getElem_cons_zero, List.setIfInBounds_toArray, List.set_cons_zero, List.set_cons_succ])
          refine wpAnyH_ready (rs := [1, 3]) (by kernel_rfl) (by simp) (AllReadyH.cons rfl (fun K hK => ?_) (AllReadyH.cons rfl (fun K hK => ?_) (AllReadyH.nil)))
          · go_simp; refine hK.out _ _ ?_ (fun hHeld => ?_); (focus (first | exact HG.out.cells | exact (HG.out.alloc _).cells | exact (HG.out.far (by omega)).cells)); clear hK K; (try simp only [Act.put, List.getElem_toArray, List.getElem_cons_succ, List.getElem_cons_zero, List.setIfInBounds_toArray, List.set_cons_zero, List.set_cons_succ])
            refine wpAnyH_ready (rs := [3]) (by kernel_rfl) (by simp) (AllReadyH.cons rfl (fun K hK => ?_) (AllReadyH.nil))
            go_simp; ((go_at_call 42; refine (Next_any w.heap.size b 4 _ HP.out.src (by omega) (by omega)).mono ?_; rintro e w' ⟨ra, ra0, ra1, rfl, hs, hbut⟩; clear c2; have HG2 := Lib.hid (HG.out.but hbut (by omega)); clear HG; have HG := HG2; clear HG2; have HP2 := Lib.hid (HP.out.next hs hbut); clear HP; have HP := HP2; clear HP2 hs hbut; have c2 := HP.out.sc.c2; have v1 := IntWalk.i64_in (1 + ra) (by omega); have v2 := IntWalk.i64_in ((1 + ra) * 65536) (by omega); have v3 : ((1 + ra) * 65536).tdiv 8 = (1 + ra) * 8192 := (by rw [Int.tdiv_eq_ediv_of_nonneg (by omega)]; omega); have v4 : (1 + ra) * 65536 / 8 = (1 + ra) * 8192 := (by omega); have v5 := IntWalk.i64_in ((1 + ra) * 8192) (by omega))); go_wp2_with fail; refine hK.out _ _ ?_ (fun hHeld => ?_); (focus (first | exact HG.out.cells | exact (HG.out.alloc _).cells | exact (HG.out.far (by omega)).cells)); clear hK K; (try simp only [Act.put, List.getElem_toArray, List.getElem_cons_succ, List.getElem_cons_zero, List.setIfInBounds_toArray, List.set_cons_zero, List.set_cons_succ])
            refine wpAnyH_take (i := 4) (v := ?_) rfl (by kernel_rfl) (by kernel_rfl) (by kernel_rfl) (fun _ _ _ h => h) (Or.inl ⟨by rfl, ?_⟩) (by assumption) ?_; rotate_left; (focus (intro w hSw; (try dsimp only at hSw); go_simp; try with_reducible rfl)); (try simp only [Act.put, List.getElem_toArray, List.getElem_cons_succ, List.getElem_cons_zero, List.setIfInBounds_toArray, List.set_cons_zero, List.set_cons_succ])
            refine wpAnyH_take (i := 5) (v := ?_) rfl (by kernel_rfl) (by kernel_rfl) (by kernel_rfl) (fun _ _ _ h => h) (Or.inl ⟨by rfl, ?_⟩) (by assumption) ?_; rotate_left; (focus (intro w hSw; (try dsimp only at hSw); go_simp; try with_reducible rfl)); (try simp only [Act.put, List.getElem_toArray, List.getElem_cons_succ, List.getElem_cons_zero, List.setIfInBounds_toArray, List.set_cons_zero, List.set_cons_succ])
            refine wpAnyH_take (i := 6) (v := ?_) rfl (by kernel_rfl) (by kernel_rfl) (by kernel_rfl) (fun _ _ _ h => h) (Or.inl ⟨by rfl, ?_⟩) (by assumption) ?_; rotate_left; (focus (intro w hSw; (try dsimp only at hSw); go_simp; try with_reducible rfl)); (try simp only [Act.put, List.getElem_toArray, List.getElem_cons_succ, List.getElem_cons_zero, List.setIfInBounds_toArray, List.set_cons_zero, List.set_cons_succ])
            refine wpAnyH_ready (rs := [9]) (by kernel_rfl) (by simp) (AllReadyH.cons rfl (fun K hK => ?_) (AllReadyH.nil))
            go_simp; ((go_at_call 43; refine (points_any w.heap.size b (x * 32768) (y * 32768) (z * 32768) _ HP.out.src HP.out.blt (by omega) (by omega) (by omega) (by omega)).mono ?_; rintro e w' ⟨ps, v, rfl, hown, hpl, hpall, hs, hbut⟩; obtain ⟨ap, cp, rfl⟩ := own_slice hown; have HO := Lib.hid (own_lower (base' := b + 1) hown (by have := HP.out.blt; omega)); have HPA := Lib.hid hpall; clear hown hpall c2; have HG2 := Lib.hid (HG.out.but hbut (by omega)); clear HG; have HG := HG2; clear HG2; have HP2 := Lib.hid (HP.out.next hs hbut); clear HP; have HP := HP2; clear HP2 hs hbut; have c2 := HP.out.sc.c2)); go_wp2_with fail; refine hK.out _ _ ?_ (fun hHeld => ?_); (focus (first | exact HG.out.cells | exact (HG.out.alloc _).cells | exact (HG.out.far (by omega)).cells)); clear hK K; (try simp only [Act.put, List.getElem_toArray, List.getElem_cons_succ, List.getElem_cons_zero, List.setIfInBounds_toArray, List.set_cons_zero, List.set_cons_succ])
            refine wpAnyH_take (i := 10) (v := ?_) rfl (by kernel_rfl) (by kernel_rfl) (by kernel_rfl) (fun _ _ _ h => h) (Or.inl ⟨by rfl, ?_⟩) (by assumption) ?_; rotate_left; (focus (intro w hSw; (try dsimp only at hSw); go_simp; try with_reducible rfl)); (try simp only [Act.put, List.getElem_toArray, List.getElem_cons_succ, List.getElem_cons_zero, List.setIfInBounds_toArray, List.set_cons_zero, List.set_cons_succ])
            refine wpAnyH_ready (rs := [11]) (by kernel_rfl) (by simp) (AllReadyH.cons rfl (fun K hK => ?_) (AllReadyH.nil))
            go_simp; refine hK.out _ _ ?_ (fun hHeld => ?_); (focus (first | exact HG.out.cells | exact (HG.out.alloc _).cells | exact (HG.out.far (by omega)).cells)); clear hK K; (try simp only [Act.put, List.getElem_toArray, List.getElem_cons_succ, List.getElem_cons_zero, List.setIfInBounds_toArray, List.set_cons_zero, List.set_cons_succ]); have HP2 := Lib.hid (HP.out.alloc (.cells (shpC ⟨-1, (1 + ra) * 8192, .slice ap ps.length cp, ps⟩) 88)); clear HP c2; have HP := HP2; clear HP2; have HO2 := Lib.hid (HO.out.alloc (.cells (shpC ⟨-1, (1 + ra) * 8192, .slice ap ps.length cp, ps⟩) 88)); clear HO; have HO := HO2; clear HO2; have HG2 := Lib.hid (HG.out.alloc (.cells (shpC ⟨-1, (1 + ra) * 8192, .slice ap ps.length cp, ps⟩) 88)); clear HG; have HG := HG2; clear HG2; have c2 := HP.out.sc.c2; simp only [shpC] at c2
            refine wpAnyH_ready (rs := [12]) (by kernel_rfl) (by simp) (AllReadyH.cons rfl (fun K hK => ?_) (AllReadyH.nil))
            rw [if_pos (by rfl)]; refine wp_append_own _ (.tmp 60) (.tmp 70) 35 rfl (b + 1) 88 i0 (.agg (shpC ⟨0, 0, .slice none 0 0, []⟩)) 3 40 under_shps SI.out SZ0.out SZ1.out SZ2.out rfl (by decide) _ ss.length (scells ss) rfl HP.out.os ⟨_, 0, none⟩ 1 1 (shpC ⟨-1, (1 + ra) * 8192, .slice ap ps.length cp, ps⟩).toList rfl (by rfl) (shp_news _ ⟨-1, (1 + ra) * 8192, .slice ap ps.length cp, ps⟩) (shp_ones ⟨-1, (1 + ra) * 8192, .slice ap ps.length cp, ps⟩ rfl) (by first | (unfold maxLen; omega) | simp [maxLen]) (by first | omega | simp) HP.out.blt ?_; intro v' w1 hown' hgrow _; obtain ⟨g', cap', rfl⟩ := own_form hown' (by omega); have HG2 := Lib.hid (HG.out.grown HP.out.os hgrow (by decide)); clear HG; have HG := HG2; clear HG2; obtain ⟨hsc, hpush⟩ := HP.out.pushS (s := ⟨-1, (1 + ra) * 8192, .slice ap ps.length cp, ps⟩) HO.out hown' hgrow; clear HP c2 hown' hgrow; have HP := Lib.hid hpush; have c2 := hsc.c2; have f2 := hsc.free 2; clear hpush hsc; refine hK.out _ _ ?_ (fun hHeld => ?_); (focus (first | exact HG.out.cells | exact (HG.out.alloc _).cells | exact (HG.out.far (by omega)).cells)); clear hK K; (try simp only [Act.put, List.getElem_toArray, List.getElem_cons_succ, List.getElem_cons_zero, List.setIfInBounds_toArray, List.set_cons_zero, List.set_cons_succ])
            refine wpAnyH_take (i := 13) (v := ?_) rfl (by kernel_rfl) (by kernel_rfl) (by kernel_rfl) (fun _ _ _ h => h) (Or.inl ⟨by rfl, ?_⟩) (by assumption) ?_; rotate_left; (focus (intro w hSw; (try dsimp only at hSw); go_simp; try with_reducible rfl)); (try simp only [Act.put, List.getElem_toArray, List.getElem_cons_succ, List.getElem_cons_zero, List.setIfInBounds_toArray, List.set_cons_zero, List.set_cons_succ])
            refine wpAnyH_ready (rs := [14]) (by kernel_rfl) (by simp) (AllReadyH.cons rfl (fun K hK => ?_) (AllReadyH.nil))
            go_simp; refine hK.out _ _ ?_ (fun hHeld => ?_); (focus (first | exact HG.out.cells | exact (HG.out.alloc _).cells | exact (HG.out.far (by omega)).cells)); clear hK K; (try simp only [Act.put, List.getElem_toArray, List.getElem_cons_succ, List.getElem_cons_zero, List.setIfInBounds_toArray, List.set_cons_zero, List.set_cons_succ])
            refine wpAnyH_done (by kernel_rfl) ?_ _
            go_wp2_with fail
            go_roundw
            case rel => exact ⟨c - 1, ss ++ [⟨-1, (1 + ra) * 8192, .slice ap ps.length cp, ps⟩], _, by omega, by rw [List.length_append]; simp; omega, rfl, fun k hk => all_snoc (P := fun _ s => MadeS js.length s) HALL.out ⟨⟨by dsimp only; omega, by dsimp only; omega⟩, ⟨by dsimp only; omega, by dsimp only; omega⟩, hpl, fun k h => by have := HPA.out k h; unfold MadeP at this; dsimp only at this ⊢; omega⟩ k hk, HP.out⟩
            case measure => simp [intOf]; omega
          · go_simp; ((go_at_call 42; refine (Next_any w.heap.size b 4 _ HP.out.src (by omega) (by omega)).mono ?_; rintro e w' ⟨ra, ra0, ra1, rfl, hs, hbut⟩; clear c2; have HG2 := Lib.hid (HG.out.but hbut (by omega)); clear HG; have HG := HG2; clear HG2; have HP2 := Lib.hid (HP.out.next hs hbut); clear HP; have HP := HP2; clear HP2 hs hbut; have c2 := HP.out.sc.c2; have v1 := IntWalk.i64_in (1 + ra) (by omega); have v2 := IntWalk.i64_in ((1 + ra) * 65536) (by omega); have v3 : ((1 + ra) * 65536).tdiv 8 = (1 + ra) * 8192 := (by rw [Int.tdiv_eq_ediv_of_nonneg (by omega)]; omega); have v4 : (1 + ra) * 65536 / 8 = (1 + ra) * 8192 := (by omega); have v5 := IntWalk.i64_in ((1 + ra) * 8192) (by omega))); go_wp2_with fail; refine hK.out _ _ ?_ (fun hHeld => ?_); (focus (first | exact HG.out.cells | exact (HG.out.alloc _).cells | exact (HG.out.far (by omega)).cells)); clear hK K; (try simp only [Act.put, List.getElem_toArray, List.getElem_cons_succ, List.getElem_cons_zero, List.setIfInBounds_toArray, List.set_cons_zero, List.set_cons_succ])
            refine wpAnyH_take (i := 4) (v := ?_) rfl (by kernel_rfl) (by kernel_rfl) (by kernel_rfl) (fun _ _ _ h => h) (Or.inl ⟨by rfl, ?_⟩) (by assumption) ?_; rotate_left; (focus (intro w hSw; (try dsimp only at hSw); go_simp; try with_reducible rfl)); (try simp only [Act.put, List.getElem_toArray, List.getElem_cons_succ, List.getElem_cons_zero, List.setIfInBounds_toArray, List.set_cons_zero, List.set_cons_succ])
            refine wpAnyH_take (i := 5) (v := ?_) rfl (by kernel_rfl) (by kernel_rfl) (by kernel_rfl) (fun _ _ _ h => h) (Or.inl ⟨by rfl, ?_⟩) (by assumption) ?_; rotate_left; (focus (intro w hSw; (try dsimp only at hSw); go_simp; try with_reducible rfl)); (try simp only [Act.put, List.getElem_toArray, List.getElem_cons_succ, List.getElem_cons_zero, List.setIfInBounds_toArray, List.set_cons_zero, List.set_cons_succ])
            refine wpAnyH_take (i := 6) (v := ?_) rfl (by kernel_rfl) (by kernel_rfl) (by kernel_rfl) (fun _ _ _ h => h) (Or.inl ⟨by rfl, ?_⟩) (by assumption) ?_; rotate_left; (focus (intro w hSw; (try dsimp only at hSw); go_simp; try with_reducible rfl)); (try simp only [Act.put, List.getElem_toArray, List.getElem_cons_succ, List.getElem_cons_zero, List.setIfInBounds_toArray, List.set_cons_zero, List.set_cons_succ])
            refine wpAnyH_ready (rs := [1, 9]) (by kernel_rfl) (by simp) (AllReadyH.cons rfl (fun K hK => ?_) (AllReadyH.cons rfl (fun K hK => ?_) (AllReadyH.nil)))
            · go_simp; refine hK.out _ _ ?_ (fun hHeld => ?_); (focus (first | exact HG.out.cells | exact (HG.out.alloc _).cells | exact (HG.out.far (by omega)).cells)); clear hK K; (try simp only [Act.put, List.getElem_toArray, List.getElem_cons_succ, List.getElem_cons_zero, List.setIfInBounds_toArray, List.set_cons_zero, List.set_cons_succ])
              refine wpAnyH_ready (rs := [9]) (by kernel_rfl) (by simp) (AllReadyH.cons rfl (fun K hK => ?_) (AllReadyH.nil))
              go_simp; ((go_at_call 43; refine (points_any w.heap.size b (x * 32768) (y * 32768) (z * 32768) _ HP.out.src HP.out.blt (by omega) (by omega) (by omega) (by omega)).mono ?_; rintro e w' ⟨ps, v, rfl, hown, hpl, hpall, hs, hbut⟩; obtain ⟨ap, cp, rfl⟩ := own_slice hown; have HO := Lib.hid (own_lower (base' := b + 1) hown (by have := HP.out.blt; omega)); have HPA := Lib.hid hpall; clear hown hpall c2; have HG2 := Lib.hid (HG.out.but hbut (by omega)); clear HG; have HG := HG2; clear HG2; have HP2 := Lib.hid (HP.out.next hs hbut); clear HP; have HP := HP2; clear HP2 hs hbut; have c2 := HP.out.sc.c2)); go_wp2_with fail; refine hK.out _ _ ?_ (fun hHeld => ?_); (focus (first | exact HG.out.cells | exact (HG.out.alloc _).cells | exact (HG.out.far (by omega)).cells)); clear hK K; (try simp only [Act.put, List.getElem_toArray, List.getElem_cons_succ, List.getElem_cons_zero, List.setIfInBounds_toArray, List.set_cons_zero, List.set_cons_succ])
              refine wpAnyH_take (i := 10) (v := ?_) rfl (by kernel_rfl) (by kernel_rfl) (by kernel_rfl) (fun _ _ _ h => h) (Or.inl ⟨by rfl, ?_⟩) (by assumption) ?_; rotate_left; (focus (intro w hSw; (try dsimp only at hSw); go_simp; try with_reducible rfl)); (try simp only [Act.put, List.getElem_toArray, List.getElem_cons_succ, List.getElem_cons_zero, List.setIfInBounds_toArray, List.set_cons_zero, List.set_cons_succ])
              refine wpAnyH_ready (rs := [11]) (by kernel_rfl) (by simp) (AllReadyH.cons rfl (fun K hK => ?_) (AllReadyH.nil))
              go_simp; refine hK.out _ _ ?_ (fun hHeld => ?_); (focus (first | exact HG.out.cells | exact (HG.out.alloc _).cells | exact (HG.out.far (by omega)).cells)); clear hK K; (try simp only [Act.put, List.getElem_toArray, List.getElem_cons_succ, List.getElem_cons_zero, List.setIfInBounds_toArray, List.set_cons_zero, List.set_cons_succ]); have HP2 := Lib.hid (HP.out.alloc (.cells (shpC ⟨-1, (1 + ra) * 8192, .slice ap ps.length cp, ps⟩) 88)); clear HP c2; have HP := HP2; clear HP2; have HO2 := Lib.hid (HO.out.alloc (.cells (shpC ⟨-1, (1 + ra) * 8192, .slice ap ps.length cp, ps⟩) 88)); clear HO; have HO := HO2; clear HO2; have HG2 := Lib.hid (HG.out.alloc (.cells (shpC ⟨-1, (1 + ra) * 8192, .slice ap ps.length cp, ps⟩) 88)); clear HG; have HG := HG2; clear HG2; have c2 := HP.out.sc.c2; simp only [shpC] at c2
              refine wpAnyH_ready (rs := [12]) (by kernel_rfl) (by simp) (AllReadyH.cons rfl (fun K hK => ?_) (AllReadyH.nil))
              rw [if_pos (by rfl)]; refine wp_append_own _ (.tmp 60) (.tmp 70) 35 rfl (b + 1) 88 i0 (.agg (shpC ⟨0, 0, .slice none 0 0, []⟩)) 3 40 under_shps SI.out SZ0.out SZ1.out SZ2.out rfl (by decide) _ ss.length (scells ss) rfl HP.out.os ⟨_, 0, none⟩ 1 1 (shpC ⟨-1, (1 + ra) * 8192, .slice ap ps.length cp, ps⟩).toList rfl (by rfl) (shp_news _ ⟨-1, (1 + ra) * 8192, .slice ap ps.length cp, ps⟩) (shp_ones ⟨-1, (1 + ra) * 8192, .slice ap ps.length cp, ps⟩ rfl) (by first | (unfold maxLen; omega) | simp [maxLen]) (by first | omega | simp) HP.out.blt ?_; intro v' w1 hown' hgrow _; obtain ⟨g', cap', rfl⟩ := own_form hown' (by omega); have HG2 := Lib.hid (HG.out.grown HP.out.os hgrow (by decide)); clear HG; have HG := HG2; clear HG2; obtain ⟨hsc, hpush⟩ := HP.out.pushS (s := ⟨-1, (1 + ra) * 8192, .slice ap ps.length cp, ps⟩) HO.out hown' hgrow; clear HP c2 hown' hgrow; have HP := Lib.hid hpush; have c2 := hsc.c2; have f2 := hsc.free 2; clear hpush hsc; refine hK.out _ _ ?_ (fun hHeld => ?_); (focus (first | exact HG.out.cells | exact (HG.out.alloc _).cells | exact (HG.out.far (by omega)).cells)); clear hK K; (try simp only [Act.put, List.getElem_toArray, List.getElem_cons_succ, List.getElem_cons_zero, List.setIfInBounds_toArray, List.set_cons_zero, List.set_cons_succ])
              refine wpAnyH_take (i := 13) (v := ?_) rfl (by kernel_rfl) (by kernel_rfl) (by kernel_rfl) (fun _ _ _ h => h) (Or.inl ⟨by rfl, ?_⟩) (by assumption) ?_; rotate_left; (focus (intro w hSw; (try dsimp only at hSw); go_simp; try with_reducible rfl)); (try simp only [Act.put, List.getElem_toArray, List.getElem_cons_succ, List.getElem_cons_zero, List.setIfInBounds_toArray, List.set_cons_zero, List.set_cons_succ])
              refine wpAnyH_ready (rs := [14]) (by kernel_rfl) (by simp) (AllReadyH.cons rfl (fun K hK => ?_) (AllReadyH.nil))
              go_simp; refine hK.out _ _ ?_ (fun hHeld => ?_); (focus (first | exact HG.out.cells | exact (HG.out.alloc _).cells | exact (HG.out.far (by omega)).cells)); clear hK K; (try simp only [Act.put, List.getElem_toArray, List.getElem_cons_succ, List.getElem_cons_zero, List.setIfInBounds_toArray, List.set_cons_zero, List.set_cons_succ])
              refine wpAnyH_done (by kernel_rfl) ?_ _
              go_wp2_with fail
              go_roundw
              case rel => exact ⟨c - 1, ss ++ [⟨-1, (1 + ra) * 8192, .slice ap ps.length cp, ps⟩], _, by omega, by rw [List.length_append]; simp; omega, rfl, fun k hk => all_snoc (P := fun _ s => MadeS js.length s) HALL.out ⟨⟨by dsimp only; omega, by dsimp only; omega⟩, ⟨by dsimp only; omega, by dsimp only; omega⟩, hpl, fun k h => by have := HPA.out k h; unfold MadeP at this; dsimp only at this ⊢; omega⟩ k hk, HP.out⟩
              case measure => simp [intOf]; omega
            · go_simp; ((go_at_call 43; refine (points_any w.heap.size b (x * 32768) (y * 32768) (z * 32768) _ HP.out.src HP.out.blt (by omega) (by omega) (by omega) (by omega)).mono ?_; rintro e w' ⟨ps, v, rfl, hown, hpl, hpall, hs, hbut⟩; obtain ⟨ap, cp, rfl⟩ := own_slice hown; have HO := Lib.hid (own_lower (base' := b + 1) hown (by have := HP.out.blt; omega)); have HPA := Lib.hid hpall; clear hown hpall c2; have HG2 := Lib.hid (HG.out.but hbut (by omega)); clear HG; have HG := HG2; clear HG2; have HP2 := Lib.hid (HP.out.next hs hbut); clear HP; have HP := HP2; clear HP2 hs hbut; have c2 := HP.out.sc.c2)); go_wp2_with fail; refine hK.out _ _ ?_ (fun hHeld => ?_); (focus (first | exact HG.out.cells | exact (HG.out.alloc _).cells | exact (HG.out.far (by omega)).cells)); clear hK K; (try simp only [Act.put, List.getElem_toArray, List.getElem_cons_succ, List.getElem_cons_zero, List.setIfInBounds_toArray, List.set_cons_zero, List.set_cons_succ])
              refine wpAnyH_take (i := 10) (v := ?_) rfl (by kernel_rfl) (by kernel_rfl) (by kernel_rfl) (fun _ _ _ h => h) (Or.inl ⟨by rfl, ?_⟩) (by assumption) ?_; rotate_left; (focus (intro w hSw; (try dsimp only at hSw); go_simp; try with_reducible rfl)); (try simp only [Act.put, List.getElem_toArray, List.getElem_cons_succ, List.getElem_cons_zero, List.setIfInBounds_toArray, List.set_cons_zero, List.set_cons_succ])
              refine wpAnyH_ready (rs := [1, 11]) (by kernel_rfl) (by simp) (AllReadyH.cons rfl (fun K hK => ?_) (AllReadyH.cons rfl (fun K hK => ?_) (AllReadyH.nil)))
              · go_simp; refine hK.out _ _ ?_ (fun hHeld => ?_); (focus (first | exact HG.out.cells | exact (HG.out.alloc _).cells | exact (HG.out.far (by omega)).cells)); clear hK K; (try simp only [Act.put, List.getElem_toArray, List.getElem_cons_succ, List.getElem_cons_zero, List.setIfInBounds_toArray, List.set_cons_zero, List.set_cons_succ])
                refine wpAnyH_ready (rs := [11]) (by kernel_rfl) (by simp) (AllReadyH.cons rfl (fun K hK => ?_) (AllReadyH.nil))
                go_simp; refine hK.out _ _ ?_ (fun hHeld => ?_); (focus (first | exact HG.out.cells | exact (HG.out.alloc _).cells | exact (HG.out.far (by omega)).cells)); clear hK K; (try simp only [Act.put, List.getElem_toArray, List.getElem_cons_succ, List.getElem_cons_zero, List.setIfInBounds_toArray, List.set_cons_zero, List.set_cons_succ]); have HP2 := Lib.hid (HP.out.alloc (.cells (shpC ⟨-1, (1 + ra) * 8192, .slice ap ps.length cp, ps⟩) 88)); clear HP c2; have HP := HP2; clear HP2; have HO2 := Lib.hid (HO.out.alloc (.cells (shpC ⟨-1, (1 + ra) * 8192, .slice ap ps.length cp, ps⟩) 88)); clear HO; have HO := HO2; clear HO2; have HG2 := Lib.hid (HG.out.alloc (.cells (shpC ⟨-1, (1 + ra) * 8192, .slice ap ps.length cp, ps⟩) 88)); clear HG; have HG := HG2; clear HG2; have c2 := HP.out.sc.c2; simp only [shpC] at c2
                refine wpAnyH_ready (rs := [12]) (by kernel_rfl) (by simp) (AllReadyH.cons rfl (fun K hK => ?_) (AllReadyH.nil))
                rw [if_pos (by rfl)]; refine wp_append_own _ (.tmp 60) (.tmp 70) 35 rfl (b + 1) 88 i0 (.agg (shpC ⟨0, 0, .slice none 0 0, []⟩)) 3 40 under_shps SI.out SZ0.out SZ1.out SZ2.out rfl (by decide) _ ss.length (scells ss) rfl HP.out.os ⟨_, 0, none⟩ 1 1 (shpC ⟨-1, (1 + ra) * 8192, .slice ap ps.length cp, ps⟩).toList rfl (by rfl) (shp_news _ ⟨-1, (1 + ra) * 8192, .slice ap ps.length cp, ps⟩) (shp_ones ⟨-1, (1 + ra) * 8192, .slice ap ps.length cp, ps⟩ rfl) (by first | (unfold maxLen; omega) | simp [maxLen]) (by first | omega | simp) HP.out.blt ?_; intro v' w1 hown' hgrow _; obtain ⟨g', cap', rfl⟩ := own_form hown' (by omega); have HG2 := Lib.hid (HG.out.grown HP.out.os hgrow (by decide)); clear HG; have HG := HG2; clear HG2; obtain ⟨hsc, hpush⟩ := HP.out.pushS (s := ⟨-1, (1 + ra) * 8192, .slice ap ps.length cp, ps⟩) HO.out hown' hgrow; clear HP c2 hown' hgrow; have HP := Lib.hid hpush; have c2 := hsc.c2; have f2 := hsc.free 2; clear hpush hsc; refine hK.out _ _ ?_ (fun hHeld => ?_); (focus (first | exact HG.out.cells | exact (HG.out.alloc _).cells | exact (HG.out.far (by omega)).cells)); clear hK K; (try simp only [Act.put, List.getElem_toArray, List.getElem_cons_succ, List.getElem_cons_zero, List.setIfInBounds_toArray, List.set_cons_zero, List.set_cons_succ])
                refine wpAnyH_take (i := 13) (v := ?_) rfl (by kernel_rfl) (by kernel_rfl) (by kernel_rfl) (fun _ _ _ h => h) (Or.inl ⟨by rfl, ?_⟩) (by assumption) ?_; rotate_left; (focus (intro w hSw; (try dsimp only at hSw); go_simp; try with_reducible rfl)); (try simp only [Act.put, List.getElem_toArray, List.getElem_cons_succ, List.getElem_cons_zero, List.setIfInBounds_toArray, List.set_cons_zero, List.set_cons_succ])
                refine wpAnyH_ready (rs := [14]) (by kernel_rfl) (by simp) (AllReadyH.cons rfl (fun K hK => ?_) (AllReadyH.nil))
                go_simp; refine hK.out _ _ ?_ (fun hHeld => ?_); (focus (first | exact HG.out.cells | exact (HG.out.alloc _).cells | exact (HG.out.far (by omega)).cells)); clear hK K; (try simp only [Act.put, List.getElem_toArray, List.getElem_cons_succ, List.getElem_cons_zero, List.setIfInBounds_toArray, List.set_cons_zero, List.set_cons_succ])
                refine wpAnyH_done (by kernel_rfl) ?_ _
                go_wp2_with fail
                go_roundw
                case rel => exact ⟨c - 1, ss ++ [⟨-1, (1 + ra) * 8192, .slice ap ps.length cp, ps⟩], _, by omega, by rw [List.length_append]; simp; omega, rfl, fun k hk => all_snoc (P := fun _ s => MadeS js.length s) HALL.out ⟨⟨by dsimp only; omega, by dsimp only; omega⟩, ⟨by dsimp only; omega, by dsimp only; omega⟩, hpl, fun k h => by have := HPA.out k h; unfold MadeP at this; dsimp only at this ⊢; omega⟩ k hk, HP.out⟩
                case measure => simp [intOf]; omega
              · go_simp; refine hK.out _ _ ?_ (fun hHeld => ?_); (focus (first | exact HG.out.cells | exact (HG.out.alloc _).cells | exact (HG.out.far (by omega)).cells)); clear hK K; (try simp only [Act.put, List.getElem_toArray, List.getElem_cons_succ, List.getElem_cons_zero, List.setIfInBounds_toArray, List.set_cons_zero, List.set_cons_succ]); have HP2 := Lib.hid (HP.out.alloc (.cells (shpC ⟨-1, (1 + ra) * 8192, .slice ap ps.length cp, ps⟩) 88)); clear HP c2; have HP := HP2; clear HP2; have HO2 := Lib.hid (HO.out.alloc (.cells (shpC ⟨-1, (1 + ra) * 8192, .slice ap ps.length cp, ps⟩) 88)); clear HO; have HO := HO2; clear HO2; have HG2 := Lib.hid (HG.out.alloc (.cells (shpC ⟨-1, (1 + ra) * 8192, .slice ap ps.length cp, ps⟩) 88)); clear HG; have HG := HG2; clear HG2; have c2 := HP.out.sc.c2; simp only [shpC] at c2
                refine wpAnyH_ready (rs := [1]) (by kernel_rfl) (by simp) (AllReadyH.cons rfl (fun K hK => ?_) (AllReadyH.nil))
                go_simp; refine hK.out _ _ ?_ (fun hHeld => ?_); (focus (first | exact HG.out.cells | exact (HG.out.alloc _).cells | exact (HG.out.far (by omega)).cells)); clear hK K; (try simp only [Act.put, List.getElem_toArray, List.getElem_cons_succ, List.getElem_cons_zero, List.setIfInBounds_toArray, List.set_cons_zero, List.set_cons_succ])
                refine wpAnyH_ready (rs := [12]) (by kernel_rfl) (by simp) (AllReadyH.cons rfl (fun K hK => ?_) (AllReadyH.nil))
                rw [if_pos (by rfl)]; refine wp_append_own _ (.tmp 60) (.tmp 70) 35 rfl (b + 1) 88 i0 (.agg (shpC ⟨0, 0, .slice none 0 0, []⟩)) 3 40 under_shps SI.out SZ0.out SZ1.out SZ2.out rfl (by decide) _ ss.length (scells ss) rfl HP.out.os ⟨_, 0, none⟩ 1 1 (shpC ⟨-1, (1 + ra) * 8192, .slice ap ps.length cp, ps⟩).toList rfl (by rfl) (shp_news _ ⟨-1, (1 + ra) * 8192, .slice ap ps.length cp, ps⟩) (shp_ones ⟨-1, (1 + ra) * 8192, .slice ap ps.length cp, ps⟩ rfl) (by first | (unfold maxLen; omega) | simp [maxLen]) (by first | omega | simp) HP.out.blt ?_; intro v' w1 hown' hgrow _; obtain ⟨g', cap', rfl⟩ := own_form hown' (by omega); have HG2 := Lib.hid (HG.out.grown HP.out.os hgrow (by decide)); clear HG; have HG := HG2; clear HG2; obtain ⟨hsc, hpush⟩ := HP.out.pushS (s := ⟨-1, (1 + ra) * 8192, .slice ap ps.length cp, ps⟩) HO.out hown' hgrow; clear HP c2 hown' hgrow; have HP := Lib.hid hpush; have c2 := hsc.c2; have f2 := hsc.free 2; clear hpush hsc; refine hK.out _ _ ?_ (fun hHeld => ?_); (focus (first | exact HG.out.cells | exact (HG.out.alloc _).cells | exact (HG.out.far (by omega)).cells)); clear hK K; (try simp only [Act.put, List.getElem_toArray, List.getElem_cons_succ, List.getElem_cons_zero, List.setIfInBounds_toArray, List.set_cons_zero, List.set_cons_succ])
                refine wpAnyH_take (i := 13) (v := ?_) rfl (by kernel_rfl) (by kernel_rfl) (by kernel_rfl) (fun _ _ _ h => h) (Or.inl ⟨by rfl, ?_⟩) (by assumption) ?_; rotate_left; (focus (intro w hSw; (try dsimp only at hSw); go_simp; try with_reducible rfl)); (try simp only [Act.put, List.getElem_toArray, List.getElem_cons_succ, List.getElem_cons_zero, List.setIfInBounds_toArray, List.set_cons_zero, List.set_cons_succ])
                refine wpAnyH_ready (rs := [14]) (by kernel_rfl) (by simp) (AllReadyH.cons rfl (fun K hK => ?_) (AllReadyH.nil))
                go_simp; refine hK.out _ _ ?_ (fun hHeld => ?_); (focus (first | exact HG.out.cells | exact (HG.out.alloc _).cells | exact (HG.out.far (by omega)).cells)); clear hK K; (try simp only [Act.put, List.getElem_toArray, List.getElem_cons_succ, List.getElem_cons_zero, List.setIfInBounds_toArray, List.set_cons_zero, List.set_cons_succ])
                refine wpAnyH_done (by kernel_rfl) ?_ _
                go_wp2_with fail
                go_roundw
                case rel => exact ⟨c - 1, ss ++ [⟨-1, (1 + ra) * 8192, .slice ap ps.length cp, ps⟩], _, by omega, by rw [List.length_append]; simp; omega, rfl, fun k hk => all_snoc (P := fun _ s => MadeS js.length s) HALL.out ⟨⟨by dsimp only; omega, by dsimp only; omega⟩, ⟨by dsimp only; omega, by dsimp only; omega⟩, hpl, fun k h => by have := HPA.out k h; unfold MadeP at this; dsimp only at this ⊢; omega⟩ k hk, HP.out⟩
                case measure => simp [intOf]; omega
        · go_wp2_with fail
          clear hlt
          refine (Next_any w.heap.size b 5 _ HP.out.src (by omega) (by omega)).mono ?_
          rintro e w' ⟨t, t0, t1, rfl, hs, hbut⟩
          have HP2 := Lib.hid (HP.out.next hs hbut); clear HP; have HP := HP2; clear HP2 hs hbut
          by_cases ht : t = 1
          · have ht1 : ((t : Int) == 1) = true := by simp [ht]
            clear ht
            have HP2 := Lib.hid HP.out.drew
            clear HP
            have HP := HP2
            clear HP2
            have c3 := HP.out.sc.c3
            go_wp2_with fail
            refine wp_region_held_drew (S := (fun w3 => w3.cell? ⟨q, 0, none⟩ = some (.slice aj js.length cj))) (by kernel_rfl) ?_ (fun hHeld => ?_)
            focus (first | exact HP.out.sc.c0 | exact (HP.out.alloc _).sc.c0 | exact c0w)
            refine wpAnyH_take (i := 0) (v := ?_) rfl (by kernel_rfl) (by kernel_rfl) (by kernel_rfl) (fun _ _ _ h => h) (Or.inl ⟨by rfl, ?_⟩) (by assumption) ?_; rotate_left; (focus (intro w hSw; (try dsimp only at hSw); go_simp; try with_reducible rfl)); (try simp only [Act.put, List.getElem_toArray, List.getElem_cons_succ, List.getElem_cons_zero, List.setIfInBounds_toArray, List.set_cons_zero, List.set_cons_succ])
            refine wpAnyH_take (i := 2) (v := ?_) rfl (by kernel_rfl) (by kernel_rfl) (by kernel_rfl) (fun _ _ _ h => h) (Or.inl ⟨by rfl, ?_⟩) (by assumption) ?_; rotate_left; (focus (intro w hSw; (try dsimp only at hSw); go_simp; try with_reducible rfl)); (try simp only [Act.put, List.getElem_toArray, List.getElem_cons_succ, List.getElem_cons_zero, List.setIfInBounds_toArray, List.set_cons_zero, List.set_cons_succ])
            refine wpAnyH_take (i := 3) (v := ?_) rfl (by kernel_rfl) (by kernel_rfl) (by kernel_rfl) (fun _ _ _ h => h) (Or.inl ⟨by rfl, ?_⟩) (by assumption) ?_; rotate_left; (focus (intro w hSw; (try dsimp only at hSw); go_simp; try with_reducible rfl)); (try simp only [Act.put, List.getElem_toArray, List.getElem_cons_succ, List.getElem_cons_zero, List.setIfInBounds_toArray, List.set_cons_zero, List.set_cons_succ])
            refine wpAnyH_take (i := 4) (v := ?_) rfl (by kernel_rfl) (by kernel_rfl) (by kernel_rfl) (fun _ _ _ h => h) (Or.inl ⟨by rfl, ?_⟩) (by assumption) ?_; rotate_left; (focus (intro w hSw; (try dsimp only at hSw); go_simp; try with_reducible rfl)); (try simp only [Act.put, List.getElem_toArray, List.getElem_cons_succ, List.getElem_cons_zero, List.setIfInBounds_toArray, List.set_cons_zero, List.set_cons_succ])
            refine wpAnyH_take (i := 5) (v := ?_) rfl (by kernel_rfl) (by kernel_rfl) (by kernel_rfl) (fun _ _ _ h => h) (Or.inl ⟨by rfl, ?_⟩) (by assumption) ?_; rotate_left; (focus (intro w hSw; (try dsimp only at hSw); go_simp; try with_reducible rfl)); (try simp only [Act.put, List.getElem_toArray, List.getElem_cons_succ, List.getElem_cons_zero, List.setIfInBounds_toArray, List.set_cons_zero, List.set_cons_succ])
            refine wpAnyH_take (i := 6) (v := ?_) rfl (by kernel_rfl) (by kernel_rfl) (by kernel_rfl) (fun _ _ _ h => h) (Or.inl ⟨by rfl, ?_⟩) (by assumption) ?_; rotate_left; (focus (intro w hSw; (try dsimp only at hSw); go_simp; try with_reducible rfl)); (try simp only [Act.put, List.getElem_toArray, List.getElem_cons_succ, List.getElem_cons_zero, List.setIfInBounds_toArray, List.set_cons_zero, List.set_cons_succ])
            refine wpAnyH_ready (rs := [1, 7]) (by kernel_rfl) (by simp) (AllReadyH.cons rfl (fun K hK => ?_) (AllReadyH.cons rfl (fun K hK => ?_) (AllReadyH.nil)))
            · go_simp; refine hK.out _ _ ?_ (fun hHeld => ?_); (focus (first | exact HP.out.sc.c0 | exact (HP.out.alloc _).sc.c0 | exact c0w)); clear hK K; (try simp only [Act.put, List.getElem_toArray, List.getElem_cons_succ, List.getElem_cons_zero, List.setIfInBounds_toArray, List.set_cons_zero, List.set_cons_succ])
              refine wpAnyH_ready (rs := [7]) (by kernel_rfl) (by simp) (AllReadyH.cons rfl (fun K hK => ?_) (AllReadyH.nil))
              go_simp; ((go_at_call 42; refine (Next_any w.heap.size b js.length _ HP.out.src (by omega) (by omega)).mono ?_; rintro e w' ⟨kb, kb0, kb1, rfl, hs, hbut⟩; clear c3; have HP2 := Lib.hid (HP.out.next hs hbut); clear HP; have HP := HP2; clear HP2 hs hbut; have c3 := HP.out.sc.c3)); go_wp2_with fail; refine hK.out _ _ ?_ (fun hHeld => ?_); (focus (first | exact HP.out.sc.c0 | exact (HP.out.alloc _).sc.c0 | exact c0w)); clear hK K; (try simp only [Act.put, List.getElem_toArray, List.getElem_cons_succ, List.getElem_cons_zero, List.setIfInBounds_toArray, List.set_cons_zero, List.set_cons_succ])
              refine wpAnyH_take (i := 8) (v := ?_) rfl (by kernel_rfl) (by kernel_rfl) (by kernel_rfl) (fun _ _ _ h => h) (Or.inl ⟨by rfl, ?_⟩) (by assumption) ?_; rotate_left; (focus (intro w hSw; (try dsimp only at hSw); go_simp; try with_reducible rfl)); (try simp only [Act.put, List.getElem_toArray, List.getElem_cons_succ, List.getElem_cons_zero, List.setIfInBounds_toArray, List.set_cons_zero, List.set_cons_succ])
              refine wpAnyH_ready (rs := [9]) (by kernel_rfl) (by simp) (AllReadyH.cons rfl (fun K hK => ?_) (AllReadyH.nil))
              go_simp; refine hK.out _ _ ?_ (fun hHeld => ?_); (focus (first | exact HP.out.sc.c0 | exact (HP.out.alloc _).sc.c0 | exact c0w)); clear hK K; (try simp only [Act.put, List.getElem_toArray, List.getElem_cons_succ, List.getElem_cons_zero, List.setIfInBounds_toArray, List.set_cons_zero, List.set_cons_succ]); have HP2 := Lib.hid (HP.out.alloc (.cells (skC ⟨-1, kb⟩) 92)); clear HP c3; have HP := HP2; clear HP2; have c3 := HP.out.sc.c3; simp only [skC] at c3
              refine wpAnyH_ready (rs := [10]) (by kernel_rfl) (by simp) (AllReadyH.cons rfl (fun K hK => ?_) (AllReadyH.nil))
              rw [if_pos (by rfl)]; refine wp_append_own _ (.tmp 77) (.tmp 85) 36 rfl (b + 1) 92 i1 (.agg (skC ⟨0, 0⟩)) 2 16 under_sks KI.out KZ0.out KZ1.out KZ2.out rfl (by decide) _ ([] : List SkD).length (kcells ([] : List SkD)) rfl HP.out.ok ⟨_, 0, none⟩ 1 1 (skC ⟨-1, kb⟩).toList rfl (by rfl) (sk_news _ ⟨-1, kb⟩) (sk_ones _) (by first | (unfold maxLen; omega) | simp [maxLen]) (by first | omega | simp) HP.out.blt ?_; intro v' w1 hown' hgrow _; obtain ⟨g', cap', rfl⟩ := own_form hown' (by omega); obtain ⟨hsc, hpush⟩ := HP.out.pushK (s := ⟨-1, kb⟩) hown' hgrow; have c0w := hsc.c0; clear HP c3 hown' hgrow; have HP := Lib.hid hpush; have c3 := hsc.c3; have f3 := hsc.free 3; clear hpush hsc; refine hK.out _ _ ?_ (fun hHeld => ?_); (focus (first | exact HP.out.sc.c0 | exact (HP.out.alloc _).sc.c0 | exact c0w)); clear hK K; (try simp only [Act.put, List.getElem_toArray, List.getElem_cons_succ, List.getElem_cons_zero, List.setIfInBounds_toArray, List.set_cons_zero, List.set_cons_succ])
              refine wpAnyH_take (i := 11) (v := ?_) rfl (by kernel_rfl) (by kernel_rfl) (by kernel_rfl) (fun _ _ _ h => h) (Or.inl ⟨by rfl, ?_⟩) (by assumption) ?_; rotate_left; (focus (intro w hSw; (try dsimp only at hSw); go_simp; try with_reducible rfl)); (try simp only [Act.put, List.getElem_toArray, List.getElem_cons_succ, List.getElem_cons_zero, List.setIfInBounds_toArray, List.set_cons_zero, List.set_cons_succ])
              refine wpAnyH_ready (rs := [12]) (by kernel_rfl) (by simp) (AllReadyH.cons rfl (fun K hK => ?_) (AllReadyH.nil))
              go_simp; refine hK.out _ _ ?_ (fun hHeld => ?_); (focus (first | exact HP.out.sc.c0 | exact (HP.out.alloc _).sc.c0 | exact c0w)); clear hK K; (try simp only [Act.put, List.getElem_toArray, List.getElem_cons_succ, List.getElem_cons_zero, List.setIfInBounds_toArray, List.set_cons_zero, List.set_cons_succ])
              refine wpAnyH_done (by kernel_rfl) ?_ _
              go_wp2_with (first | (refine wpList_load_row rfl 38 _ rfl (q) rfl 38 _ (0, 0) _ HP.out.sc under_sc rfl info_sc ?_) | (refine wpList_store_row rfl 38 _ _ rfl (w.heap.size) #[.slice aj js.length cj, .slice am ms.length cm, vs, .slice (some ⟨g', 0, none⟩) (([] : List SkD).length + 1) cap'] rfl rfl 38 #[.slice none 0 0, .slice none 0 0, .slice none 0 0, .slice none 0 0] HP.out.re info_sc rfl (HP.out.ones) ?_))
              (try simp only [Exit.inBlock, Exit.then])
              obtain ⟨d1, d2, d3, d4, d5, d6⟩ := HP.out.done
              refine bodyPost_ret (v := .agg #[.slice aj js.length cj, .slice am ms.length cm, vs, .slice (some ⟨g', 0, none⟩) (([] : List SkD).length + 1) cap']) ?_ rfl ⟨js, ms, ss, [⟨-1, kb⟩], _, _, _, _, rfl, d1, d2, d3, d4, d5, d6, ⟨j1, j3⟩, HJ.out, hml, HM.out, by omega, HALL.out, by simp, fun k hk => (by have : k = 0 := (by simp at hk; omega); subst this; exact ⟨rfl, kb0, kb1⟩)⟩
              exact results_cell_row rfl _ _ (w.heap.size) 38 _ (0, 0) _ rfl (setRow_heap _ _ _ _ _ _ HP.out.re) under_sc rfl info_sc
            · go_simp; ((go_at_call 42; refine (Next_any w.heap.size b js.length _ HP.out.src (by omega) (by omega)).mono ?_; rintro e w' ⟨kb, kb0, kb1, rfl, hs, hbut⟩; clear c3; have HP2 := Lib.hid (HP.out.next hs hbut); clear HP; have HP := HP2; clear HP2 hs hbut; have c3 := HP.out.sc.c3)); go_wp2_with fail; refine hK.out _ _ ?_ (fun hHeld => ?_); (focus (first | exact HP.out.sc.c0 | exact (HP.out.alloc _).sc.c0 | exact c0w)); clear hK K; (try simp only [Act.put, List.getElem_toArray, List.getElem_cons_succ, List.getElem_cons_zero, List.setIfInBounds_toArray, List.set_cons_zero, List.set_cons_succ])
              refine wpAnyH_take (i := 8) (v := ?_) rfl (by kernel_rfl) (by kernel_rfl) (by kernel_rfl) (fun _ _ _ h => h) (Or.inl ⟨by rfl, ?_⟩) (by assumption) ?_; rotate_left; (focus (intro w hSw; (try dsimp only at hSw); go_simp; try with_reducible rfl)); (try simp only [Act.put, List.getElem_toArray, List.getElem_cons_succ, List.getElem_cons_zero, List.setIfInBounds_toArray, List.set_cons_zero, List.set_cons_succ])
              refine wpAnyH_ready (rs := [1, 9]) (by kernel_rfl) (by simp) (AllReadyH.cons rfl (fun K hK => ?_) (AllReadyH.cons rfl (fun K hK => ?_) (AllReadyH.nil)))
              · go_simp; refine hK.out _ _ ?_ (fun hHeld => ?_); (focus (first | exact HP.out.sc.c0 | exact (HP.out.alloc _).sc.c0 | exact c0w)); clear hK K; (try simp only [Act.put, List.getElem_toArray, List.getElem_cons_succ, List.getElem_cons_zero, List.setIfInBounds_toArray, List.set_cons_zero, List.set_cons_succ])
                refine wpAnyH_ready (rs := [9]) (by kernel_rfl) (by simp) (AllReadyH.cons rfl (fun K hK => ?_) (AllReadyH.nil))
                go_simp; refine hK.out _ _ ?_ (fun hHeld => ?_); (focus (first | exact HP.out.sc.c0 | exact (HP.out.alloc _).sc.c0 | exact c0w)); clear hK K; (try simp only [Act.put, List.getElem_toArray, List.getElem_cons_succ, List.getElem_cons_zero, List.setIfInBounds_toArray, List.set_cons_zero, List.set_cons_succ]); have HP2 := Lib.hid (HP.out.alloc (.cells (skC ⟨-1, kb⟩) 92)); clear HP c3; have HP := HP2; clear HP2; have c3 := HP.out.sc.c3; simp only [skC] at c3
                refine wpAnyH_ready (rs := [10]) (by kernel_rfl) (by simp) (AllReadyH.cons rfl (fun K hK => ?_) (AllReadyH.nil))
                rw [if_pos (by rfl)]; refine wp_append_own _ (.tmp 77) (.tmp 85) 36 rfl (b + 1) 92 i1 (.agg (skC ⟨0, 0⟩)) 2 16 under_sks KI.out KZ0.out KZ1.out KZ2.out rfl (by decide) _ ([] : List SkD).length (kcells ([] : List SkD)) rfl HP.out.ok ⟨_, 0, none⟩ 1 1 (skC ⟨-1, kb⟩).toList rfl (by rfl) (sk_news _ ⟨-1, kb⟩) (sk_ones _) (by first | (unfold maxLen; omega) | simp [maxLen]) (by first | omega | simp) HP.out.blt ?_; intro v' w1 hown' hgrow _; obtain ⟨g', cap', rfl⟩ := own_form hown' (by omega); obtain ⟨hsc, hpush⟩ := HP.out.pushK (s := ⟨-1, kb⟩) hown' hgrow; have c0w := hsc.c0; clear HP c3 hown' hgrow; have HP := Lib.hid hpush; have c3 := hsc.c3; have f3 := hsc.free 3; clear hpush hsc; refine hK.out _ _ ?_ (fun hHeld => ?_); (focus (first | exact HP.out.sc.c0 | exact (HP.out.alloc _).sc.c0 | exact c0w)); clear hK K; (try simp only [Act.put, List.getElem_toArray, List.getElem_cons_succ, List.getElem_cons_zero, List.setIfInBounds_toArray, List.set_cons_zero, List.set_cons_succ])
                refine wpAnyH_take (i := 11) (v := ?_) rfl (by kernel_rfl) (by kernel_rfl) (by kernel_rfl) (fun _ _ _ h => h) (Or.inl ⟨by rfl, ?_⟩) (by assumption) ?_; rotate_left; (focus (intro w hSw; (try dsimp only at hSw); go_simp; try with_reducible rfl)); (try simp only [Act.put, List.getElem_toArray, List.getElem_cons_succ, List.getElem_cons_zero, List.setIfInBounds_toArray, List.set_cons_zero, List.set_cons_succ])
                refine wpAnyH_ready (rs := [12]) (by kernel_rfl) (by simp) (AllReadyH.cons rfl (fun K hK => ?_) (AllReadyH.nil))
                go_simp; refine hK.out _ _ ?_ (fun hHeld => ?_); (focus (first | exact HP.out.sc.c0 | exact (HP.out.alloc _).sc.c0 | exact c0w)); clear hK K; (try simp only [Act.put, List.getElem_toArray, List.getElem_cons_succ, List.getElem_cons_zero, List.setIfInBounds_toArray, List.set_cons_zero, List.set_cons_succ])
                refine wpAnyH_done (by kernel_rfl) ?_ _
                go_wp2_with (first | (refine wpList_load_row rfl 38 _ rfl (q) rfl 38 _ (0, 0) _ HP.out.sc under_sc rfl info_sc ?_) | (refine wpList_store_row rfl 38 _ _ rfl (w.heap.size) #[.slice aj js.length cj, .slice am ms.length cm, vs, .slice (some ⟨g', 0, none⟩) (([] : List SkD).length + 1) cap'] rfl rfl 38 #[.slice none 0 0, .slice none 0 0, .slice none 0 0, .slice none 0 0] HP.out.re info_sc rfl (HP.out.ones) ?_))
                (try simp only [Exit.inBlock, Exit.then])
                obtain ⟨d1, d2, d3, d4, d5, d6⟩ := HP.out.done
                refine bodyPost_ret (v := .agg #[.slice aj js.length cj, .slice am ms.length cm, vs, .slice (some ⟨g', 0, none⟩) (([] : List SkD).length + 1) cap']) ?_ rfl ⟨js, ms, ss, [⟨-1, kb⟩], _, _, _, _, rfl, d1, d2, d3, d4, d5, d6, ⟨j1, j3⟩, HJ.out, hml, HM.out, by omega, HALL.out, by simp, fun k hk => (by have : k = 0 := (by simp at hk; omega); subst this; exact ⟨rfl, kb0, kb1⟩)⟩
                exact results_cell_row rfl _ _ (w.heap.size) 38 _ (0, 0) _ rfl (setRow_heap _ _ _ _ _ _ HP.out.re) under_sc rfl info_sc
              · go_simp; refine hK.out _ _ ?_ (fun hHeld => ?_); (focus (first | exact HP.out.sc.c0 | exact (HP.out.alloc _).sc.c0 | exact c0w)); clear hK K; (try simp only [Act.put, List.getElem_toArray, List.getElem_cons_succ, List.getElem_cons_zero, List.setIfInBounds_toArray, List.set_cons_zero, List.set_cons_succ]); have HP2 := Lib.hid (HP.out.alloc (.cells (skC ⟨-1, kb⟩) 92)); clear HP c3; have HP := HP2; clear HP2; have c3 := HP.out.sc.c3; simp only [skC] at c3
                refine wpAnyH_ready (rs := [1]) (by kernel_rfl) (by simp) (AllReadyH.cons rfl (fun K hK => ?_) (AllReadyH.nil))
                go_simp; refine hK.out _ _ ?_ (fun hHeld => ?_); (focus (first | exact HP.out.sc.c0 | exact (HP.out.alloc _).sc.c0 | exact c0w)); clear hK K; (try simp only [Act.put, List.getElem_toArray, List.getElem_cons_succ, List.getElem_cons_zero, List.setIfInBounds_toArray, List.set_cons_zero, List.set_cons_succ])
                refine wpAnyH_ready (rs := [10]) (by kernel_rfl) (by simp) (AllReadyH.cons rfl (fun K hK => ?_) (AllReadyH.nil))
                rw [if_pos (by rfl)]; refine wp_append_own _ (.tmp 77) (.tmp 85) 36 rfl (b + 1) 92 i1 (.agg (skC ⟨0, 0⟩)) 2 16 under_sks KI.out KZ0.out KZ1.out KZ2.out rfl (by decide) _ ([] : List SkD).length (kcells ([] : List SkD)) rfl HP.out.ok ⟨_, 0, none⟩ 1 1 (skC ⟨-1, kb⟩).toList rfl (by rfl) (sk_news _ ⟨-1, kb⟩) (sk_ones _) (by first | (unfold maxLen; omega) | simp [maxLen]) (by first | omega | simp) HP.out.blt ?_; intro v' w1 hown' hgrow _; obtain ⟨g', cap', rfl⟩ := own_form hown' (by omega); obtain ⟨hsc, hpush⟩ := HP.out.pushK (s := ⟨-1, kb⟩) hown' hgrow; have c0w := hsc.c0; clear HP c3 hown' hgrow; have HP := Lib.hid hpush; have c3 := hsc.c3; have f3 := hsc.free 3; clear hpush hsc; refine hK.out _ _ ?_ (fun hHeld => ?_); (focus (first | exact HP.out.sc.c0 | exact (HP.out.alloc _).sc.c0 | exact c0w)); clear hK K; (try simp only [Act.put, List.getElem_toArray, List.getElem_cons_succ, List.getElem_cons_zero, List.setIfInBounds_toArray, List.set_cons_zero, List.set_cons_succ])
                refine wpAnyH_take (i := 11) (v := ?_) rfl (by kernel_rfl) (by kernel_rfl) (by kernel_rfl) (fun _ _ _ h => h) (Or.inl ⟨by rfl, ?_⟩) (by assumption) ?_; rotate_left; (focus (intro w hSw; (try dsimp only at hSw); go_simp; try with_reducible rfl)); (try simp only [Act.put, List.getElem_toArray, List.getElem_cons_succ, List.getElem_cons_zero, List.setIfInBounds_toArray, List.set_cons_zero, List.set_cons_succ])
                refine wpAnyH_ready (rs := [12]) (by kernel_rfl) (by simp) (AllReadyH.cons rfl (fun K hK => ?_) (AllReadyH.nil))
                go_simp; refine hK.out _ _ ?_ (fun hHeld => ?_); (focus (first | exact HP.out.sc.c0 | exact (HP.out.alloc _).sc.c0 | exact c0w)); clear hK K; (try simp only [Act.put, List.getElem_toArray, List.getElem_cons_succ, List.getElem_cons_zero, List.setIfInBounds_toArray, List.set_cons_zero, List.set_cons_succ])
                refine wpAnyH_done (by kernel_rfl) ?_ _
                go_wp2_with (first | (refine wpList_load_row rfl 38 _ rfl (q) rfl 38 _ (0, 0) _ HP.out.sc under_sc rfl info_sc ?_) | (refine wpList_store_row rfl 38 _ _ rfl (w.heap.size) #[.slice aj js.length cj, .slice am ms.length cm, vs, .slice (some ⟨g', 0, none⟩) (([] : List SkD).length + 1) cap'] rfl rfl 38 #[.slice none 0 0, .slice none 0 0, .slice none 0 0, .slice none 0 0] HP.out.re info_sc rfl (HP.out.ones) ?_))
                (try simp only [Exit.inBlock, Exit.then])
                obtain ⟨d1, d2, d3, d4, d5, d6⟩ := HP.out.done
                refine bodyPost_ret (v := .agg #[.slice aj js.length cj, .slice am ms.length cm, vs, .slice (some ⟨g', 0, none⟩) (([] : List SkD).length + 1) cap']) ?_ rfl ⟨js, ms, ss, [⟨-1, kb⟩], _, _, _, _, rfl, d1, d2, d3, d4, d5, d6, ⟨j1, j3⟩, HJ.out, hml, HM.out, by omega, HALL.out, by simp, fun k hk => (by have : k = 0 := (by simp at hk; omega); subst this; exact ⟨rfl, kb0, kb1⟩)⟩
                exact results_cell_row rfl _ _ (w.heap.size) 38 _ (0, 0) _ rfl (setRow_heap _ _ _ _ _ _ HP.out.re) under_sc rfl info_sc
          · have ht1 : ((t : Int) == 1) = false := by simp [ht]
            clear ht
            go_wp2_with (first | (refine wpList_load_row rfl 38 _ rfl (q) rfl 38 _ (0, 0) _ HP.out.sc under_sc rfl info_sc ?_) | (refine wpList_store_row rfl 38 _ _ rfl (w.heap.size) #[.slice aj js.length cj, .slice am ms.length cm, vs, .slice none 0 0] rfl rfl 38 #[.slice none 0 0, .slice none 0 0, .slice none 0 0, .slice none 0 0] HP.out.re info_sc rfl (HP.out.ones) ?_))
            (try simp only [Exit.inBlock, Exit.then])
            obtain ⟨d1, d2, d3, d4, d5, d6⟩ := HP.out.done
            refine bodyPost_ret (v := .agg #[.slice aj js.length cj, .slice am ms.length cm, vs, .slice none 0 0]) ?_ rfl ⟨js, ms, ss, [], _, _, _, _, rfl, d1, d2, d3, d4, d5, d6, ⟨j1, j3⟩, HJ.out, hml, HM.out, by omega, HALL.out, by simp, fun k h => absurd h (by simp)⟩
            exact results_cell_row rfl _ _ (w.heap.size) 38 _ (0, 0) _ rfl (setRow_heap _ _ _ _ _ _ HP.out.re) under_sc rfl info_sc
end Go.Proofs.YtpaiapcnoifpmaaDoor
