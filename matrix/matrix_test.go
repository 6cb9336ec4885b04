package matrix_test

import (
	"math"
	"math/big"
	"testing"

	"armplan/angle"
	"armplan/api"
	"armplan/interval"
	"armplan/matrix"
)

const (
	least    = math.MinInt64
	greatest = math.MaxInt64
	one      = api.One
	quarter  = api.Turn / 4
)

// of returns the interval from lo to hi.
func of(lo, hi int64) api.Interval {
	return api.Interval{Lo: lo, Hi: hi}
}

// at returns the interval that contains x alone.
func at(x int64) api.Interval {
	return of(x, x)
}

// points returns the vector of intervals that contains (x, y, z) alone.
func points(x, y, z int64) api.IVec {
	return api.IVec{at(x), at(y), at(z)}
}

// rows returns the matrix that contains the numbers alone.
func rows(r, s, t api.Vec) api.IMat {
	return api.IMat{points(r[0], r[1], r[2]), points(s[0], s[1], s[2]), points(t[0], t[1], t[2])}
}

// broken returns intervals that are not valid.
func broken() []api.Interval {
	return []api.Interval{
		of(1, 0), of(0, -1), of(api.Max, -api.Max), of(0, api.Max+1), of(-api.Max-1, 0), of(api.Max+1, api.Max+1),
		of(-api.Max-1, api.Max+1), of(least, greatest), of(greatest, least), of(least, least), of(greatest, greatest),
	}
}

// source yields numbers by a fixed rule.
type source struct{ state uint64 }

// bits returns a number of at most the given count of binary digits, of either sign.
func (s *source) bits(digits int) int64 {
	s.state = s.state*6364136223846793005 + 1442695040888963407
	return int64(s.state) >> (64 - digits)
}

// below returns a number from 0 to n - 1.
func (s *source) below(n int64) int64 {
	return int64(uint64(s.bits(48)+1<<48) % uint64(n))
}

// interval returns a valid interval, with ends of any size up to about 2^digits.
func (s *source) interval(digits int64) api.Interval {
	x := s.bits(int(1 + s.below(digits)))
	y := s.bits(int(1 + s.below(digits)))
	return of(min(x, y), max(x, y))
}

func (s *source) vector(digits int64) api.IVec {
	return api.IVec{s.interval(digits), s.interval(digits), s.interval(digits)}
}

func (s *source) matrix(digits int64) api.IMat {
	return api.IMat{s.vector(digits), s.vector(digits), s.vector(digits)}
}

// partly returns the interval, or sometimes one that is not valid.
func (s *source) partly(a api.Interval) api.Interval {
	if s.below(4) > 0 {
		return a
	}
	list := broken()
	return list[s.below(int64(len(list)))]
}

func (s *source) partlyVector(digits int64) api.IVec {
	v := s.vector(digits)
	for i := range v {
		v[i] = s.partly(v[i])
	}
	return v
}

func (s *source) partlyMatrix(digits int64) api.IMat {
	return api.IMat{s.partlyVector(digits), s.partlyVector(digits), s.partlyVector(digits)}
}

// part returns an interval within a.
func (s *source) part(a api.Interval) api.Interval {
	x := a.Lo + s.below(a.Hi-a.Lo+1)
	y := a.Lo + s.below(a.Hi-a.Lo+1)
	return of(min(x, y), max(x, y))
}

func (s *source) partOfVector(v api.IVec) api.IVec {
	return api.IVec{s.part(v[0]), s.part(v[1]), s.part(v[2])}
}

func (s *source) partOfMatrix(m api.IMat) api.IMat {
	return api.IMat{s.partOfVector(m[0]), s.partOfVector(m[1]), s.partOfVector(m[2])}
}

// TestPoint checks P4.1: each component alone, clamped.
func TestPoint(t *testing.T) {
	for _, x := range []struct {
		v    api.Vec
		want api.IVec
	}{
		{api.Vec{}, api.IVec{}},
		{api.Vec{1, -2, 3}, points(1, -2, 3)},
		{api.Vec{api.Max, -api.Max, one}, points(api.Max, -api.Max, one)},
		{api.Vec{api.Max + 1, -api.Max - 1, 0}, points(api.Max, -api.Max, 0)},
		{api.Vec{least, 7, greatest}, points(-api.Max, 7, api.Max)},
	} {
		if got := matrix.Point(x.v); got != x.want {
			t.Errorf("Point(%v) = %v, want %v", x.v, got, x.want)
		}
	}
}

// TestAddSub checks P4.1: the sum and the difference of each component, limited.
func TestAddSub(t *testing.T) {
	for _, x := range []struct{ a, b, sum, difference api.IVec }{
		{api.IVec{}, api.IVec{}, api.IVec{}, api.IVec{}},
		{points(1, 2, 3), points(10, 20, 40), points(11, 22, 43), points(-9, -18, -37)},
		{
			api.IVec{of(1, 2), of(-3, 5), of(0, 7)},
			api.IVec{of(10, 20), of(-1, 1), of(-7, 0)},
			api.IVec{of(11, 22), of(-4, 6), of(-7, 7)},
			api.IVec{of(-19, -8), of(-4, 6), of(0, 14)},
		},
		{
			points(api.Max, -api.Max, api.Max), points(1, -1, -api.Max),
			points(api.Max, -api.Max, 0), points(api.Max-1, -api.Max+1, api.Max),
		},
		{
			api.IVec{of(2, 1), at(5), at(6)}, api.IVec{at(1), of(0, api.Max+1), at(4)},
			points(0, 0, 10), points(0, 0, 2),
		},
	} {
		if got := matrix.Add(x.a, x.b); got != x.sum {
			t.Errorf("Add(%v, %v) = %v, want %v", x.a, x.b, got, x.sum)
		}
		if got := matrix.Sub(x.a, x.b); got != x.difference {
			t.Errorf("Sub(%v, %v) = %v, want %v", x.a, x.b, got, x.difference)
		}
	}
}

// TestAddSubComponents checks P4.1 against package interval, also with components that are not valid.
func TestAddSubComponents(t *testing.T) {
	s := &source{1}
	for range 2000 {
		a, b := s.partlyVector(32), s.partlyVector(32)
		sum, difference := matrix.Add(a, b), matrix.Sub(a, b)
		for i := range 3 {
			if sum[i] != interval.Add(a[i], b[i]) || difference[i] != interval.Sub(a[i], b[i]) {
				t.Fatal(a, b, sum, difference)
			}
		}
	}
}

// TestIdentity checks P4.1.
func TestIdentity(t *testing.T) {
	want := rows(api.Vec{65536, 0, 0}, api.Vec{0, 65536, 0}, api.Vec{0, 0, 65536})
	if got := matrix.Identity(); got != want {
		t.Error(got)
	}
}

// TestTurnQuarters checks P4.2 and the chapter's example: multiples of a quarter turn are exact.
func TestTurnQuarters(t *testing.T) {
	for _, x := range []struct {
		axis  int
		angle int64
		want  api.IMat
	}{
		{2, quarter, rows(api.Vec{0, -one, 0}, api.Vec{one, 0, 0}, api.Vec{0, 0, one})},
		{2, -quarter, rows(api.Vec{0, one, 0}, api.Vec{-one, 0, 0}, api.Vec{0, 0, one})},
		{2, 5 * quarter, rows(api.Vec{0, -one, 0}, api.Vec{one, 0, 0}, api.Vec{0, 0, one})},
		{2, 2 * quarter, rows(api.Vec{-one, 0, 0}, api.Vec{0, -one, 0}, api.Vec{0, 0, one})},
		{0, quarter, rows(api.Vec{one, 0, 0}, api.Vec{0, 0, -one}, api.Vec{0, one, 0})},
		{0, 2 * quarter, rows(api.Vec{one, 0, 0}, api.Vec{0, -one, 0}, api.Vec{0, 0, -one})},
		{1, quarter, rows(api.Vec{0, 0, one}, api.Vec{0, one, 0}, api.Vec{-one, 0, 0})},
		{1, 2 * quarter, rows(api.Vec{-one, 0, 0}, api.Vec{0, one, 0}, api.Vec{0, 0, -one})},
		{0, 0, matrix.Identity()},
		{1, 0, matrix.Identity()},
		{2, 4 * quarter, matrix.Identity()},
	} {
		if got := matrix.Turn(x.axis, at(x.angle)); got != x.want {
			t.Errorf("Turn(%d, %d) = %v, want %v", x.axis, x.angle, got, x.want)
		}
	}
}

// TestTurnIntervals checks P4.2 for single angles and intervals of angles, about each axis.
func TestTurnIntervals(t *testing.T) {
	zero, full := at(0), at(one)
	for _, x := range []struct{ a, c, s, n api.Interval }{
		{at(5461), of(56756, 56757), of(32766, 32767), of(-32767, -32766)},
		{of(0, 8192), of(46340, 65536), of(0, 46341), of(-46341, 0)},
		{of(-1, 1), of(65535, 65536), of(-7, 7), of(-7, 7)},
		{of(0, 32768), of(-65536, 65536), of(0, 65536), of(-65536, 0)},
		{of(-api.Max, api.Max), of(-65536, 65536), of(-65536, 65536), of(-65536, 65536)},
	} {
		for axis, want := range []api.IMat{
			{{full, zero, zero}, {zero, x.c, x.n}, {zero, x.s, x.c}},
			{{x.c, zero, x.s}, {zero, full, zero}, {x.n, zero, x.c}},
			{{x.c, x.n, zero}, {x.s, x.c, zero}, {zero, zero, full}},
		} {
			if got := matrix.Turn(axis, x.a); got != want {
				t.Errorf("Turn(%d, %v) = %v, want %v", axis, x.a, got, want)
			}
		}
	}
}

// TestTurnElements checks P4.2: the elements are those that package angle returns.
func TestTurnElements(t *testing.T) {
	s := &source{2}
	zero, full := at(0), at(one)
	for range 2000 {
		a := s.interval(20)
		cosine, sine := angle.CosOver(a), angle.SinOver(a)
		negated := of(-sine.Hi, -sine.Lo)
		x, y, z := matrix.Turn(0, a), matrix.Turn(1, a), matrix.Turn(2, a)
		if x != (api.IMat{{full, zero, zero}, {zero, cosine, negated}, {zero, sine, cosine}}) ||
			y != (api.IMat{{cosine, zero, sine}, {zero, full, zero}, {negated, zero, cosine}}) ||
			z != (api.IMat{{cosine, negated, zero}, {sine, cosine, zero}, {zero, zero, full}}) {
			t.Fatal(a, x, y, z)
		}
	}
}

// TestTurnInvalid checks P4.2: the zero IMat for another axis, or an interval that is not valid.
func TestTurnInvalid(t *testing.T) {
	for _, axis := range []int{-1, 3, 4, 258, math.MinInt, math.MaxInt} {
		for _, a := range []api.Interval{at(0), at(quarter), of(0, 100), of(1, 0)} {
			if got := matrix.Turn(axis, a); got != (api.IMat{}) {
				t.Errorf("Turn(%d, %v) = %v", axis, a, got)
			}
		}
	}
	for axis := range 3 {
		for _, a := range broken() {
			if got := matrix.Turn(axis, a); got != (api.IMat{}) {
				t.Errorf("Turn(%d, %v) = %v", axis, a, got)
			}
		}
	}
}

// TestApply checks P4.3 with products worked by hand.
func TestApply(t *testing.T) {
	half := int64(one / 2)
	for _, x := range []struct {
		m    api.IMat
		v    api.IVec
		want api.IVec
	}{
		{matrix.Identity(), points(5, -6, 7), points(5, -6, 7)},
		{api.IMat{}, points(5, -6, 7), points(0, 0, 0)},
		{matrix.Turn(2, at(quarter)), points(3, 5, 7), points(-5, 3, 7)},
		{matrix.Turn(0, at(quarter)), points(3, 5, 7), points(3, -7, 5)},
		{matrix.Turn(1, at(quarter)), points(3, 5, 7), points(7, 5, -3)},
		{
			rows(api.Vec{one, 2 * one, 3 * one}, api.Vec{-one, 0, one}, api.Vec{half, half, half}),
			points(2, 4, 6), points(28, 4, 6),
		},
		// Each product is rounded by itself: three halves of an odd number are not rounded once.
		{
			rows(api.Vec{half, half, half}, api.Vec{half, 0, 0}, api.Vec{-half, -half, 0}),
			points(1, 1, 1), api.IVec{of(0, 3), of(0, 1), of(-2, 0)},
		},
		{
			api.IMat{{of(-one, one), of(0, one), of(one, 2*one)}, {at(0), at(0), at(0)}, {of(half, one), at(0), at(-one)}},
			api.IVec{of(2, 3), of(-4, 4), of(5, 6)},
			api.IVec{of(-3-4+5, 3+4+12), at(0), of(1-6, 3-5)},
		},
	} {
		if got := matrix.Apply(x.m, x.v); got != x.want {
			t.Errorf("Apply(%v, %v) = %v, want %v", x.m, x.v, got, x.want)
		}
	}
}

// TestApplyOrder checks P4.3: sums are limited from left to right, and so depend on the order of the axes.
func TestApplyOrder(t *testing.T) {
	m := rows(api.Vec{one, one, -one}, api.Vec{one, -one, one}, api.Vec{-one, one, one})
	v := points(api.Max, api.Max, api.Max-5)
	want := points(5, api.Max-5, api.Max-5)
	if got := matrix.Apply(m, v); got != want {
		t.Error(got)
	}
	v = points(api.Max-5, api.Max, api.Max)
	want = points(0, api.Max-5, api.Max)
	if got := matrix.Apply(m, v); got != want {
		t.Error(got)
	}
}

// inner returns the sum of the three products, written out.
func inner(a, b [3]api.Interval) api.Interval {
	x, y, z := interval.Mul(a[0], b[0]), interval.Mul(a[1], b[1]), interval.Mul(a[2], b[2])
	return interval.Add(interval.Add(x, y), z)
}

// column returns column k of a matrix.
func column(m api.IMat, k int) [3]api.Interval {
	return [3]api.Interval{m[0][k], m[1][k], m[2][k]}
}

// TestApplyComponents checks P4.3 against the sums of products, also with elements that are not valid.
func TestApplyComponents(t *testing.T) {
	s := &source{3}
	for n := range 4000 {
		m, v := s.partlyMatrix(18), s.partlyVector(32)
		if n%4 == 0 {
			m = s.partlyMatrix(32)
		}
		got := matrix.Apply(m, v)
		for i := range 3 {
			if want := inner(m[i], v); got[i] != want {
				t.Fatal(m, v, i, got[i], want)
			}
		}
	}
}

// TestCompose checks P4.3 with products worked by hand.
func TestCompose(t *testing.T) {
	x, y, z := matrix.Turn(0, at(quarter)), matrix.Turn(1, at(quarter)), matrix.Turn(2, at(quarter))
	half := int64(one / 2)
	for _, c := range []struct{ a, b, want api.IMat }{
		{matrix.Identity(), x, x},
		{x, matrix.Identity(), x},
		{z, z, matrix.Turn(2, at(2*quarter))},
		{x, z, rows(api.Vec{0, -one, 0}, api.Vec{0, 0, -one}, api.Vec{one, 0, 0})},
		{z, x, rows(api.Vec{0, 0, one}, api.Vec{one, 0, 0}, api.Vec{0, one, 0})},
		{y, z, rows(api.Vec{0, 0, one}, api.Vec{one, 0, 0}, api.Vec{0, one, 0})},
		{z, y, rows(api.Vec{0, -one, 0}, api.Vec{0, 0, one}, api.Vec{-one, 0, 0})},
		{
			rows(api.Vec{1, 2, 3}, api.Vec{}, api.Vec{}), rows(api.Vec{one, 0, 0}, api.Vec{0, half, 0}, api.Vec{one, half, -one}),
			api.IMat{{at(4), of(2, 3), at(-3)}},
		},
	} {
		if got := matrix.Compose(c.a, c.b); got != c.want {
			t.Errorf("Compose(%v, %v) = %v, want %v", c.a, c.b, got, c.want)
		}
	}
}

// TestComposeLimits checks P4.3: both ends of each element are limited to -One..One, and only after the whole sum.
func TestComposeLimits(t *testing.T) {
	a := rows(api.Vec{one, one, one}, api.Vec{-one, -one, -one}, api.Vec{one, one, -one})
	b := api.IMat{
		{at(one), of(-one, one), of(one-1, one)},
		{at(one), of(-one, one), at(0)},
		{at(one), of(-one, one), at(1)},
	}
	want := api.IMat{
		{at(one), of(-one, one), at(one)},
		{at(-one), of(-one, one), of(-one, -one)},
		{at(one), of(-one, one), of(one-2, one-1)},
	}
	if got := matrix.Compose(a, b); got != want {
		t.Error(got)
	}
	far := rows(api.Vec{api.Max, api.Max, -api.Max}, api.Vec{api.Max, -api.Max, 0}, api.Vec{-api.Max, 0, 0})
	ones := rows(api.Vec{one, one, one}, api.Vec{one, one, one}, api.Vec{one, one, one})
	want = rows(api.Vec{}, api.Vec{}, api.Vec{-one, -one, -one})
	if got := matrix.Compose(far, ones); got != want {
		t.Error(got)
	}
}

// TestComposeElements checks P4.3 against the sums of products, also with elements that are not valid.
func TestComposeElements(t *testing.T) {
	s := &source{4}
	for n := range 4000 {
		a, b := s.partlyMatrix(17), s.partlyMatrix(17)
		if n%4 == 0 {
			a, b = s.partlyMatrix(32), s.partlyMatrix(32)
		}
		got := matrix.Compose(a, b)
		for i := range 3 {
			for k := range 3 {
				sum := inner(a[i], column(b, k))
				want := of(min(max(sum.Lo, -one), one), min(max(sum.Hi, -one), one))
				if got[i][k] != want {
					t.Fatal(a, b, i, k, got[i][k], want)
				}
			}
		}
	}
}

// TestTranspose checks P4.3, also for elements that are not valid: they are exchanged like others.
func TestTranspose(t *testing.T) {
	m := api.IMat{
		{of(1, 2), of(3, 4), of(5, 6)},
		{of(7, 8), of(9, 10), of(11, 12)},
		{of(14, 13), of(15, api.Max+1), of(least, greatest)},
	}
	want := api.IMat{
		{of(1, 2), of(7, 8), of(14, 13)},
		{of(3, 4), of(9, 10), of(15, api.Max+1)},
		{of(5, 6), of(11, 12), of(least, greatest)},
	}
	if got := matrix.Transpose(m); got != want {
		t.Error(got)
	}
	if got := matrix.Transpose(want); got != m {
		t.Error(got)
	}
	for axis := range 3 {
		if got := matrix.Transpose(matrix.Turn(axis, of(100, 9000))); got != matrix.Turn(axis, of(-9000, -100)) {
			t.Error(axis, got)
		}
	}
}

// TestWithin checks P4.4: each component counts.
func TestWithin(t *testing.T) {
	b := api.IVec{of(-2, 4), of(0, 9), of(-7, -3)}
	if !matrix.Within(b, b) || !matrix.Within(api.IVec{}, api.IVec{}) {
		t.Error("a vector is not within itself")
	}
	if !matrix.Within(api.IVec{of(-1, 4), of(0, 8), at(-7)}, b) {
		t.Error("parts are not within")
	}
	for i := range 3 {
		for _, x := range append(broken(), of(b[i].Lo-1, b[i].Hi), of(b[i].Lo, b[i].Hi+1), at(b[i].Hi+1), at(b[i].Lo-1)) {
			a := b
			a[i] = x
			if matrix.Within(a, b) {
				t.Error(a, "within", b)
			}
		}
		for _, x := range broken() {
			c := b
			c[i] = x
			if matrix.Within(b, c) || matrix.Within(c, c) {
				t.Error(c)
			}
		}
	}
}

// TestWithinMat checks P4.4: each element counts.
func TestWithinMat(t *testing.T) {
	b := api.IMat{
		{of(-2, 4), of(0, 9), of(-7, -3)},
		{of(1, 1), of(-5, 5), of(0, 100)},
		{of(-one, one), of(0, one), of(-one, 0)},
	}
	if !matrix.WithinMat(b, b) || !matrix.WithinMat(matrix.Identity(), matrix.Identity()) {
		t.Error("a matrix is not within itself")
	}
	for i := range 3 {
		for k := range 3 {
			a := b
			a[i][k] = at(b[i][k].Lo)
			if !matrix.WithinMat(a, b) {
				t.Error(a, "not within", b)
			}
			for _, x := range append(broken(), of(b[i][k].Lo-1, b[i][k].Hi), of(b[i][k].Lo, b[i][k].Hi+1)) {
				a[i][k] = x
				if matrix.WithinMat(a, b) {
					t.Error(a, "within", b)
				}
			}
			for _, x := range broken() {
				c := b
				c[i][k] = x
				if matrix.WithinMat(b, c) || matrix.WithinMat(c, c) {
					t.Error(c)
				}
			}
		}
	}
}

// TestMonotone checks P4.5: the results of parts are within the results of the whole.
func TestMonotone(t *testing.T) {
	s := &source{5}
	for n := range 4000 {
		digits := []int64{16, 17, 32}[n%3]
		a, b, v, w := s.matrix(digits), s.matrix(17), s.vector(32), s.vector(32)
		angles := s.interval(18)
		c, d, x, y := s.partOfMatrix(a), s.partOfMatrix(b), s.partOfVector(v), s.partOfVector(w)
		if !matrix.Within(matrix.Add(x, y), matrix.Add(v, w)) || !matrix.Within(matrix.Sub(x, y), matrix.Sub(v, w)) {
			t.Fatal(x, y, v, w)
		}
		if !matrix.Within(matrix.Apply(c, x), matrix.Apply(a, v)) {
			t.Fatal(c, x, a, v)
		}
		if !matrix.WithinMat(matrix.Compose(c, d), matrix.Compose(a, b)) {
			t.Fatal(c, d, a, b)
		}
		part := s.part(angles)
		for axis := range 3 {
			if !matrix.WithinMat(matrix.Turn(axis, part), matrix.Turn(axis, angles)) {
				t.Fatal(axis, part, angles)
			}
		}
	}
}

// rotation is a rotation with rational elements.
type rotation [3][3]*big.Rat

// exact returns the rotation that belongs to the quaternion (w, x, y, z), which is not 0.
func exact(w, x, y, z int64) rotation {
	n := w*w + x*x + y*y + z*z
	e := [3][3]int64{
		{w*w + x*x - y*y - z*z, 2 * (x*y - w*z), 2 * (x*z + w*y)},
		{2 * (x*y + w*z), w*w - x*x + y*y - z*z, 2 * (y*z - w*x)},
		{2 * (x*z - w*y), 2 * (y*z + w*x), w*w - x*x - y*y + z*z},
	}
	var r rotation
	for i := range 3 {
		for k := range 3 {
			r[i][k] = big.NewRat(e[i][k], n)
		}
	}
	return r
}

// enclosed returns the least matrix that contains a rotation.
func enclosed(r rotation) api.IMat {
	var m api.IMat
	for i := range 3 {
		for k := range 3 {
			scaled := new(big.Rat).Mul(r[i][k], big.NewRat(one, 1))
			lo := new(big.Int).Div(scaled.Num(), scaled.Denom()).Int64()
			hi := lo
			if !scaled.IsInt() {
				hi++
			}
			m[i][k] = of(lo, hi)
		}
	}
	return m
}

// contains reports whether a contains x units.
func contains(a api.Interval, x *big.Rat) bool {
	return big.NewRat(a.Lo, 1).Cmp(x) <= 0 && x.Cmp(big.NewRat(a.Hi, 1)) <= 0
}

// dot returns the sum of the products.
func dot(a, b [3]*big.Rat) *big.Rat {
	sum := new(big.Rat)
	for k := range 3 {
		sum.Add(sum, new(big.Rat).Mul(a[k], b[k]))
	}
	return sum
}

// TestRotatedVector checks P4.5: Apply contains the rotated vector, and Compose and Transpose contain the product and the inverse of the rotations.
func TestRotatedVector(t *testing.T) {
	s := &source{6}
	for n := range 3000 {
		r := exact(1+s.below(50), s.bits(6), s.bits(6), s.bits(6))
		q := exact(s.bits(5), 1+s.below(50), s.bits(4), s.bits(5))
		digits := 1 + int64(n%30)
		v := api.Vec{s.bits(int(digits)), s.bits(int(digits)), s.bits(int(digits))}
		x := [3]*big.Rat{big.NewRat(v[0], 1), big.NewRat(v[1], 1), big.NewRat(v[2], 1)}
		image := matrix.Apply(enclosed(r), matrix.Point(v))
		composed := matrix.Compose(enclosed(r), enclosed(q))
		inverse := matrix.Compose(matrix.Transpose(enclosed(r)), enclosed(r))
		for i := range 3 {
			if want := dot(r[i], x); !contains(image[i], want) {
				t.Fatal(r, v, i, image[i], want)
			}
			for k := range 3 {
				want := dot(r[i], [3]*big.Rat{q[0][k], q[1][k], q[2][k]})
				if !contains(composed[i][k], want.Mul(want, big.NewRat(one, 1))) {
					t.Fatal(r, q, i, k, composed[i][k], want)
				}
			}
		}
		if !matrix.WithinMat(matrix.Identity(), inverse) {
			t.Fatal(r, inverse)
		}
	}
}

// TestTurnedVector checks P4.5: a vector that is turned by an angle lies in the vectors that are turned by the angles of an interval.
func TestTurnedVector(t *testing.T) {
	const near = 1e-3
	s := &source{7}
	for range 3000 {
		a := s.interval(16)
		radians := 2 * math.Pi * float64(s.part(a).Lo) / api.Turn
		v := api.Vec{s.bits(28), s.bits(28), s.bits(28)}
		for axis := range 3 {
			// The axes after the given one, in turn, span the plane in which the vector turns.
			j, k := (axis+1)%3, (axis+2)%3
			var want [3]float64
			want[axis] = float64(v[axis])
			want[j] = float64(v[j])*math.Cos(radians) - float64(v[k])*math.Sin(radians)
			want[k] = float64(v[j])*math.Sin(radians) + float64(v[k])*math.Cos(radians)
			got := matrix.Apply(matrix.Turn(axis, a), matrix.Point(v))
			for i := range 3 {
				if want[i] < float64(got[i].Lo)-near || want[i] > float64(got[i].Hi)+near {
					t.Fatal(axis, a, v, got, want)
				}
			}
		}
	}
}
