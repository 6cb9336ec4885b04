/- Proved: the developers' functions that make the statements of one joint and of one mass, for a valid robot. Conditions: as each theorem states. -/
import Derived.Test.YtpaiapcnoifpmaaDoorRe3
import Derived.Test.YtpaiapcnoifpmaaDoorRe4
namespace Go.Proofs.YtpaiapcnoifpmaaDoor
open Go.RowKit

/-- Few words, none of them long. -/
def FewW (g : St) : Prop := g.args.length ≤ 9 ∧ ∀ a ∈ g.args, a.size ≤ 100
theorem name_size {b : ByteArray} (h : nameS (bts b) = true) : b.size ≤ 100 := by
  unfold nameS at h
  simp [bts_len] at h
  omega
theorem kind_size (k : Int) : (kindB k).size ≤ 100 := by
  unfold kindB
  repeat' split
  all_goals decide
theorem len5 {l : List ByteArray} (h : l.length = 5) : ∃ a b c d e, l = [a, b, c, d, e] := by
  match l, h with
  | [a, b, c, d, e], _ => exact ⟨a, b, c, d, e, rfl⟩
theorem len4 {l : List ByteArray} (h : l.length = 4) : ∃ a b c d, l = [a, b, c, d] := by
  match l, h with
  | [a, b, c, d], _ => exact ⟨a, b, c, d, rfl⟩
theorem len3 {l : List ByteArray} (h : l.length = 3) : ∃ a b c, l = [a, b, c] := by
  match l, h with
  | [a, b, c], _ => exact ⟨a, b, c, rfl⟩
theorem link_size {js : List JointD} (hg : ∀ i (h : i < js.length), GoodJ js i js[i]) {p : Int} (h0 : -1 ≤ p) (h1 : p < js.length) : (linkN js p).size ≤ 100 := by
  unfold linkN
  split
  · decide
  · rename_i h
    rw [List.getD_eq_getElem?_getD, List.getElem?_eq_getElem (by omega)]
    exact name_size (hg _ _).nm
theorem mk_WJ {js : List JointD} (hg : ∀ i (h : i < js.length), GoodJ js i js[i]) {i : Nat} (hi : i < js.length) {bs cs : List ByteArray} {b : ByteArray} (hb : bs.length = 5) (hc : cs.length = 3)
    (h1 : ∀ k (h : k < bs.length) (h' : k < [js[i].x, js[i].y, js[i].z, js[i].lo, js[i].hi].length), numW bs[k] [js[i].x, js[i].y, js[i].z, js[i].lo, js[i].hi][k]) (h2 : intW b js[i].weight)
    (h3 : ∀ k (h : k < cs.length) (h' : k < [js[i].speed, js[i].accel, js[i].torque].length), intW cs[k] [js[i].speed, js[i].accel, js[i].torque][k]) (x y : Int) :
    WJ js js[i] ⟨x, ⟨#[106, 111, 105, 110, 116]⟩, [js[i].name, kindB js[i].kind, linkN js js[i].parent] ++ bs ++ [b]⟩ ⟨y, ⟨#[108, 105, 109, 105, 116]⟩, [js[i].name] ++ cs⟩ ∧
      FewW ⟨x, ⟨#[106, 111, 105, 110, 116]⟩, [js[i].name, kindB js[i].kind, linkN js js[i].parent] ++ bs ++ [b]⟩ ∧ FewW ⟨y, ⟨#[108, 105, 109, 105, 116]⟩, [js[i].name] ++ cs⟩ := by
  obtain ⟨b0, b1, b2, b3, b4, rfl⟩ := len5 hb
  obtain ⟨c0, c1, c2, rfl⟩ := len3 hc
  have n0 := h1 0 (by simp) (by simp)
  have n1 := h1 1 (by simp) (by simp)
  have n2 := h1 2 (by simp) (by simp)
  have n3 := h1 3 (by simp) (by simp)
  have n4 := h1 4 (by simp) (by simp)
  have m0 := h3 0 (by simp) (by simp)
  have m1 := h3 1 (by simp) (by simp)
  have m2 := h3 2 (by simp) (by simp)
  have G := hg i hi
  have p0 := G.p0
  have p1 := G.p1
  have s0 := name_size G.nm
  have s1 := kind_size js[i].kind
  have s2 := link_size hg p0 (by omega)
  have a0 := n0.2.1.2
  have a1 := n1.2.1.2
  have a2 := n2.2.1.2
  have a3 := n3.2.1.2
  have a4 := n4.2.1.2
  have a5 := h2.2.1.2
  have a6 := m0.2.1.2
  have a7 := m1.2.1.2
  have a8 := m2.2.1.2
  simp only [List.getElem_cons_zero, List.getElem_cons_succ] at a0 a1 a2 a3 a4 a5 a6 a7 a8
  refine ⟨⟨rfl, rfl, ⟨b0, b1, b2, b3, b4, b, rfl, ⟨n0.1, n1.1, n2.1, n3.1, n4.1⟩, h2.1⟩, c0, c1, c2, rfl, m0.1, m1.1, m2.1⟩, ⟨by simp, fun a ha => ?_⟩, ⟨by simp, fun a ha => ?_⟩⟩
  · simp only [List.cons_append, List.nil_append, List.mem_cons, List.not_mem_nil, or_false] at ha
    rcases ha with rfl | rfl | rfl | rfl | rfl | rfl | rfl | rfl | rfl <;> omega
  · simp only [List.cons_append, List.nil_append, List.mem_cons, List.not_mem_nil, or_false] at ha
    rcases ha with rfl | rfl | rfl | rfl <;> omega
theorem mk_WM {js : List JointD} (hg : ∀ i (h : i < js.length), GoodJ js i js[i]) {m : MassD} {l : Nat} (hl : l < js.length) (hm : m.link = l) {bs : List ByteArray} (hb : bs.length = 4)
    (h1 : ∀ k (h : k < bs.length) (h' : k < [m.mass, m.x, m.y, m.z].length), numW bs[k] [m.mass, m.x, m.y, m.z][k]) (x : Int) :
    WM js m ⟨x, ⟨#[109, 97, 115, 115]⟩, [js[l].name] ++ bs⟩ ∧ FewW ⟨x, ⟨#[109, 97, 115, 115]⟩, [js[l].name] ++ bs⟩ := by
  obtain ⟨b0, b1, b2, b3, rfl⟩ := len4 hb
  have n0 := h1 0 (by simp) (by simp)
  have n1 := h1 1 (by simp) (by simp)
  have n2 := h1 2 (by simp) (by simp)
  have n3 := h1 3 (by simp) (by simp)
  have s0 := name_size (hg l hl).nm
  have a0 := n0.2.1.2
  have a1 := n1.2.1.2
  have a2 := n2.2.1.2
  have a3 := n3.2.1.2
  simp only [List.getElem_cons_zero, List.getElem_cons_succ] at a0 a1 a2 a3
  have e : (js.getD m.link.toNat zeroJ).name = js[l].name := by
    rw [hm, Int.toNat_natCast, List.getD_eq_getElem?_getD, List.getElem?_eq_getElem hl]
    rfl
  refine ⟨⟨rfl, b0, b1, b2, b3, by rw [e]; rfl, n0.1, n1.1, n2.1, n3.1⟩, ⟨by simp, fun a ha => ?_⟩⟩
  simp only [List.cons_append, List.nil_append, List.mem_cons, List.not_mem_nil, or_false] at ha
  rcases ha with rfl | rfl | rfl | rfl | rfl <;> omega
theorem jointSt_any (js : List JointD) (vj vm : Value) (i : Nat) (hi : i < js.length) (j : JointD) (hje : js[i] = j) (w : World) (hT : Pow10 w) (hK : KindT w) (hg : GoodJ js i j) (hr : RdO w vj js.length 12 (jcells js)) (lj : js.length ≤ 8796093022208) :
    Calls Tryd.prog 47 #[ .agg #[vj, vm], .agg #[.string j.name, .int .i64 j.kind, .int .i64 j.parent, .int .i64 j.x, .int .i64 j.y, .int .i64 j.z, .int .i64 j.lo, .int .i64 j.hi, .int .i64 j.weight, .int .i64 j.speed, .int .i64 j.accel, .int .i64 j.torque] ] w (StJ w [j.name, kindB j.kind, linkN js j.parent] [j.x, j.y, j.z, j.lo, j.hi] j.weight) := by
  obtain ⟨nm, un, k0, k6, p0, p1, num, wt, _⟩ := hg
  obtain ⟨name, kind, parent, x, y, z, lo, hi', weight, speed, accel, torque⟩ := j
  dsimp only at k0 k6 p0 p1 num wt ⊢
  obtain ⟨k, rfl⟩ : ∃ k : Nat, kind = k := ⟨kind.toNat, by omega⟩
  by_cases hw : parent = -1
  · subst hw
    have e : linkN js (-1) = (⟨#[119, 111, 114, 108, 100]⟩ : ByteArray) := by unfold linkN; rw [if_pos rfl]
    rw [e]
    exact jointSt_world vj vm name k x y z lo hi' weight speed accel torque w hT hK (by omega) num wt
  · obtain ⟨p, rfl⟩ : ∃ p : Nat, parent = p := ⟨parent.toNat, by omega⟩
    have hp : p < js.length := by omega
    have e : linkN js p = js[p].name := by
      unfold linkN
      rw [if_neg hw, Int.toNat_natCast, List.getD_eq_getElem?_getD, List.getElem?_eq_getElem hp]
      rfl
    rw [e]
    exact jointSt_link js vj vm p js[p] name k x y z lo hi' weight speed accel torque w hT hK (by omega) num wt hr hp rfl lj
end Go.Proofs.YtpaiapcnoifpmaaDoor
