/- Proved: the developers' functions that make one statement each. Conditions: as each theorem states. -/
import Derived.Test.YtpaiapcnoifpmaaDoorRe1
import Derived.Test.YtpaiapcnoifpmaaDoorRc6
namespace Go.Proofs.YtpaiapcnoifpmaaDoor
open Go.RowKit

/-- A statement that was made: its words are xs and a word for each number. -/
def StP (w : World) (word : ByteArray) (xs : List ByteArray) (zs : List Int) (p : ByteArray → Int → Prop) : Ending → World → Prop := fun e w' =>
  ∃ (va : Value) (bs : List ByteArray), e = .returned (.agg #[.int .i64 0, .string word, va]) ∧ OwnT w.heap.size w' va (xs ++ bs) ∧ bs.length = zs.length ∧ (∀ k (h : k < bs.length) (h' : k < zs.length), p bs[k] zs[k]) ∧ Below w.heap.size w w'
theorem ints_row (V : World) (B : Nat) (zs : List Int) (ds : Array Value) (n : Nat) (hB : B ≤ V.heap.size) (hn : zs.length = n) (hd : ds = (zs.map (Value.int .i64)).toArray) (hl : n ≤ maxLen) :
    (V.alloc (.cells ds 2)).ownsRow B 2 1 (.slice (some ⟨V.heap.size, 0, none⟩) n n) zs.length (zs.map (Value.int .i64)) := by
  subst hd hn
  exact own_lit V B 2 _ 1 _ (by simp) hB hl
theorem strs_row (V : World) (B : Nat) (xs : List ByteArray) (ds : Array Value) (n : Nat) (hB : B ≤ V.heap.size) (hn : xs.length = n) (hd : ds = (xs.map Value.string).toArray) (hl : n ≤ maxLen) :
    OwnT B (V.alloc (.cells ds 9)) (.slice (some ⟨V.heap.size, 0, none⟩) n n) xs := by
  subst hd hn
  exact own_lit V B 9 _ 1 _ (by simp) hB hl
theorem all_int {p : Int → Prop} (zs : List Int) (h : ∀ z ∈ zs, p z) : ∀ k (hk : k < zs.length), p zs[k] := fun _ hk => h _ (List.getElem_mem hk)
def StAtB (W : World) (q : Nat) : Prop := W.heap[q]? = some (.cells #[.int .i64 0, .string ⟨#[]⟩, .slice none 0 0] 43 (0, 0))
theorem StAtB.all {W : World} {q : Nat} (h : StAtB W q) : (W.cell? ⟨q, 0, none⟩ = some (.int .i64 0) ∧ W.cell? ⟨q, 1, none⟩ = some (.string ⟨#[]⟩) ∧ W.cell? ⟨q, 2, none⟩ = some (.slice none 0 0)) ∧ W.frozen? ⟨q, 0, none⟩ = false ∧ W.frozen? ⟨q, 1, none⟩ = false ∧ W.frozen? ⟨q, 2, none⟩ = false :=
  ⟨⟨cell_of_row W q 0 _ _ _ h, cell_of_row W q 1 _ _ _ h, cell_of_row W q 2 _ _ _ h⟩, frozen_of_row W q 0 _ _ h, frozen_of_row W q 1 _ _ h, frozen_of_row W q 2 _ _ h⟩
theorem StAtB.new {W : World} {q : Nat} (h : W.heap.size = q) : StAtB (W.alloc (.cells #[.int .i64 0, .string ⟨#[]⟩, .slice none 0 0] 43)) q := by subst h; exact heap_alloc_new _ _
theorem StAtB.below {W V : World} {q B : Nat} (h : StAtB W q) (hb : Below B W V) (hB : q < B) : StAtB V q := (hb.block q hB).trans h
theorem OwnT.set_below {B : Nat} {W : World} {v : Value} {xs : List ByteArray} (h : OwnT B W v xs) {a : Addr} (ha : a.block < B) (x : Value) : OwnT B (W.setCell a x) v xs := ownsRow_setCell_below h ha x
theorem OwnT.mono {B B' : Nat} {W : World} {v : Value} {xs : List ByteArray} (h : OwnT B W v xs) (hb : B' ≤ B) : OwnT B' W v xs := owns_base h hb
set_option linter.unusedSimpArgs false in
set_option linter.unusedVariables false in
set_option maxRecDepth 100000 in
set_option maxHeartbeats 6400000 in
theorem limitSt_any (j : JointD) (w : World) (hT : Pow10 w) (hj : ∀ z ∈ [j.speed, j.accel, j.torque], 0 ≤ z ∧ z < 1000000000000000) :
    Calls Tryd.prog 48 #[ .agg #[.string j.name, .int .i64 j.kind, .int .i64 j.parent, .int .i64 j.x, .int .i64 j.y, .int .i64 j.z, .int .i64 j.lo, .int .i64 j.hi, .int .i64 j.weight, .int .i64 j.speed, .int .i64 j.accel, .int .i64 j.torque] ] w (StP w ⟨#[108, 105, 109, 105, 116]⟩ [j.name] [j.speed, j.accel, j.torque] intW) := by
  have J0 := JointAt.at_new (V := w) (j := j) rfl
  have HJ := J0.all
  simp only [jointC] at HJ
  obtain ⟨c0, c1, c2, c3, c4, c5, c6, c7, c8, c9, c10, c11⟩ := HJ
  have HT := Lib.hid hT
  have HR := Lib.hid hj
  clear J0 hT hj
  unfold StP
  go_enter Tryd.func48, Tryd.ntmps48
  go_wp2_with fail
  clear c0 c1 c2 c3 c4 c5 c6 c7 c8 c9 c10 c11
  obtain ⟨V, hV⟩ : ∃ V, (w.alloc (.cells #[.string j.name, .int .i64 j.kind, .int .i64 j.parent, .int .i64 j.x, .int .i64 j.y, .int .i64 j.z, .int .i64 j.lo, .int .i64 j.hi, .int .i64 j.weight, .int .i64 j.speed, .int .i64 j.accel, .int .i64 j.torque] 60)).alloc (.cells #[.int .i64 0, .string ⟨#[]⟩, .slice none 0 0] 43) = V := ⟨_, rfl⟩
  have hs : V.heap.size = w.heap.size + 1 + 1 := by rw [← hV]; simp
  have hS : StAtB V (w.heap.size + 1) := by rw [← hV]; exact StAtB.new (by simp)
  have hBV : Below w.heap.size w V := by rw [← hV]; exact ((Below.refl _ _).alloc (Nat.le_refl _) _).alloc (by simp) _
  rw [hV, ← hs]
  have hT2 := hBV
  have HS := Lib.hid hS
  have HBV := Lib.hid hBV
  have HT2 : PowB V.heap.size V := HT.out.next hBV
  clear hV hS hBV HT
  have r1 := strs_row V V.heap.size [j.name] #[.string j.name] 1 (Nat.le_refl _) rfl rfl (by decide)
  have r2 := ints_row (V.alloc (.cells #[.string j.name] 9)) V.heap.size [j.speed, j.accel, j.torque] #[.int .i64 j.speed, .int .i64 j.accel, .int .i64 j.torque] 3 (by simp) rfl rfl (by decide)
  have r3 : OwnT V.heap.size _ _ _ := World.ownsRow.alloc r1 (.cells #[.int .i64 j.speed, .int .i64 j.accel, .int .i64 j.torque] 2)
  have hb4 := ((Below.refl V.heap.size V).alloc (Nat.le_refl _) (.cells #[.string j.name] 9)).alloc (by simp) (.cells #[.int .i64 j.speed, .int .i64 j.accel, .int .i64 j.torque] 2)
  have hr4 := all_int [j.speed, j.accel, j.torque] HR.out
  have hgo := appIntegers_any V.heap.size _ _ [j.name] [j.speed, j.accel, j.torque] _ (HT2.on hb4) hb4.size r3 r2 (by simp) (by simp) hr4
  rw [show (V.alloc (.cells #[.string j.name] 9)).heap.size = V.heap.size + 1 by simp] at hgo
  refine hgo.mono ?_
  clear hgo r1 r2 r3 hr4 HR
  rintro e w1 ⟨va, bs, rfl, hown, hlen, hok, hb⟩
  obtain ⟨q, k, c, rfl⟩ := own_slc hown
  have hb5 := hb4.trans hb
  have HO := Lib.hid hown
  have HL := Lib.hid hlen
  have HK := Lib.hid hok
  have HB := Lib.hid hb5
  obtain ⟨⟨c0, c1, c2⟩, f0, f1, f2⟩ := (HS.out.below hb5 (by omega)).all
  have hs5 := hb5.size
  clear hown hlen hok hb hb4 hb5
  go_wp2_with fail
  refine bodyPost_ret (v := .agg #[.int .i64 0, .string ⟨#[108, 105, 109, 105, 116]⟩, .slice q k c]) (by first | (simp [results, Tryd.results48, go_sem, c0, c1, c2]; done) | (simp [results, Tryd.results48, go_sem]; done)) rfl ⟨_, bs, rfl, ?_, HL.out, HK.out, ?_⟩
  · exact OwnT.mono (B := V.heap.size) (xs := [j.name] ++ bs) (by repeat (first | exact HO.out | refine OwnT.set_below ?_ (by dsimp only; omega) _)) (by omega)
  · exact HBV.out.trans (by repeat (first | exact HB.out.mono (by omega) | refine Below.setCell ?_ (by dsimp only; omega) _))
set_option linter.unusedSimpArgs false in
set_option linter.unusedVariables false in
set_option maxRecDepth 100000 in
set_option maxHeartbeats 6400000 in
theorem massSt_any (js : List JointD) (vj vm : Value) (m : MassD) (l : Nat) (j : JointD) (w : World) (hT : Pow10 w) (hr : RdO w vj js.length 12 (jcells js)) (hm : m.link = l) (hl : l < js.length) (hje : js[l] = j) (hz : ∀ z ∈ [m.mass, m.x, m.y, m.z], -2147483648 ≤ z ∧ z ≤ 2147483648) (lj : js.length ≤ 8796093022208) :
    Calls Tryd.prog 49 #[ .agg #[vj, vm], .agg #[.int .i64 m.link, .int .i64 m.mass, .int .i64 m.x, .int .i64 m.y, .int .i64 m.z] ] w (StP w ⟨#[109, 97, 115, 115]⟩ [j.name] [m.mass, m.x, m.y, m.z] numW) := by
  obtain ⟨A, c, rfl, _, hat⟩ := hr.joint
  obtain ⟨g, o, rfl, hg, c0, _⟩ := hat l hl
  rw [hje] at c0
  rw [hm]
  have HT := Lib.hid hT
  have HR := Lib.hid hz
  have hb3 : Below w.heap.size w (((w.alloc (.cells #[.slice (some ⟨g, o, none⟩) js.length c, vm] 25)).alloc (.cells #[.int .i64 l, .int .i64 m.mass, .int .i64 m.x, .int .i64 m.y, .int .i64 m.z] 74)).alloc (.cells #[.int .i64 0, .string ⟨#[]⟩, .slice none 0 0] 43)) := (((Below.refl _ _).alloc (Nat.le_refl _) _).alloc (by simp) _).alloc (by simp; omega) _
  have b1 := (hb3.cell (p := ⟨g, o + l * 12, none⟩) hg).trans c0
  clear hT hz hr hat hje hb3
  unfold StP
  go_enter Tryd.func49, Tryd.ntmps49
  go_wp2_with fail
  clear c0 b1
  obtain ⟨V, hV⟩ : ∃ V, ((w.alloc (.cells #[.slice (some ⟨g, o, none⟩) js.length c, vm] 25)).alloc (.cells #[.int .i64 l, .int .i64 m.mass, .int .i64 m.x, .int .i64 m.y, .int .i64 m.z] 74)).alloc (.cells #[.int .i64 0, .string ⟨#[]⟩, .slice none 0 0] 43) = V := ⟨_, rfl⟩
  have hs : V.heap.size = w.heap.size + 1 + 1 + 1 := by rw [← hV]; simp
  have hS : StAtB V (w.heap.size + 1 + 1) := by rw [← hV]; exact StAtB.new (by simp)
  have hBV : Below w.heap.size w V := by rw [← hV]; exact (((Below.refl _ _).alloc (Nat.le_refl _) _).alloc (by simp) _).alloc (by simp; omega) _
  rw [hV, ← hs]
  have HS := Lib.hid hS
  have HBV := Lib.hid hBV
  have HT2 : PowB V.heap.size V := HT.out.next hBV
  clear hV hS hBV HT
  have r1 := strs_row V V.heap.size [j.name] #[.string j.name] 1 (Nat.le_refl _) rfl rfl (by decide)
  have r2 := ints_row (V.alloc (.cells #[.string j.name] 9)) V.heap.size [m.mass, m.x, m.y, m.z] #[.int .i64 m.mass, .int .i64 m.x, .int .i64 m.y, .int .i64 m.z] 4 (by simp) rfl rfl (by decide)
  have r3 : OwnT V.heap.size _ _ _ := World.ownsRow.alloc r1 (.cells #[.int .i64 m.mass, .int .i64 m.x, .int .i64 m.y, .int .i64 m.z] 2)
  have hb4 := ((Below.refl V.heap.size V).alloc (Nat.le_refl _) (.cells #[.string j.name] 9)).alloc (by simp) (.cells #[.int .i64 m.mass, .int .i64 m.x, .int .i64 m.y, .int .i64 m.z] 2)
  have hr4 := all_int [m.mass, m.x, m.y, m.z] HR.out
  have hgo := appNumbers_any V.heap.size _ _ [j.name] [m.mass, m.x, m.y, m.z] _ (HT2.on hb4) hb4.size r3 r2 (by simp) (by simp) hr4
  rw [show (V.alloc (.cells #[.string j.name] 9)).heap.size = V.heap.size + 1 by simp] at hgo
  refine hgo.mono ?_
  clear hgo r1 r2 r3 hr4 HR
  rintro e w1 ⟨va, bs, rfl, hown, hlen, hok, hb⟩
  obtain ⟨q, k, c, rfl⟩ := own_slc hown
  have hb5 := hb4.trans hb
  have HO := Lib.hid hown
  have HL := Lib.hid hlen
  have HK := Lib.hid hok
  have HB := Lib.hid hb5
  obtain ⟨⟨c0, c1, c2⟩, f0, f1, f2⟩ := (HS.out.below hb5 (by omega)).all
  have hs5 := hb5.size
  clear hown hlen hok hb hb4 hb5
  go_wp2_with fail
  refine bodyPost_ret (v := .agg #[.int .i64 0, .string ⟨#[109, 97, 115, 115]⟩, .slice q k c]) (by first | (simp [results, Tryd.results49, go_sem, c0, c1, c2]; done) | (simp [results, Tryd.results49, go_sem]; done)) rfl ⟨_, bs, rfl, ?_, HL.out, HK.out, ?_⟩
  · exact OwnT.mono (B := V.heap.size) (xs := [j.name] ++ bs) (by repeat (first | exact HO.out | refine OwnT.set_below ?_ (by dsimp only; omega) _)) (by omega)
  · exact HBV.out.trans (by repeat (first | exact HB.out.mono (by omega) | refine Below.setCell ?_ (by dsimp only; omega) _))
end Go.Proofs.YtpaiapcnoifpmaaDoor
