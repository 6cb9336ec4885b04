package pose_test

import (
	"math"
	"math/big"
	"testing"

	"armplan/api"
	"armplan/interval"
	"armplan/matrix"
	"armplan/pose"
)

const (
	least    = math.MinInt64
	greatest = math.MaxInt64
	one      = api.One
	quarter  = api.Turn / 4
)

// of returns the interval from lo to hi.
func of(lo, hi int64) api.Interval {
	return api.Interval{Lo: lo, Hi: hi}
}

// at returns the interval that contains x alone.
func at(x int64) api.Interval {
	return of(x, x)
}

// points returns the vector of intervals that contains (x, y, z) alone.
func points(x, y, z int64) api.IVec {
	return api.IVec{at(x), at(y), at(z)}
}

// rows returns the matrix that contains the numbers alone.
func rows(r, s, t api.Vec) api.IMat {
	return api.IMat{points(r[0], r[1], r[2]), points(s[0], s[1], s[2]), points(t[0], t[1], t[2])}
}

// still returns the matrix that contains the identity alone.
func still() api.IMat {
	return rows(api.Vec{65536, 0, 0}, api.Vec{0, 65536, 0}, api.Vec{0, 0, 65536})
}

// broken returns intervals that are not valid.
func broken() []api.Interval {
	return []api.Interval{
		of(1, 0), of(0, -1), of(api.Max, -api.Max), of(0, api.Max+1), of(-api.Max-1, 0), of(api.Max+1, api.Max+1),
		of(-api.Max-1, api.Max+1), of(least, greatest), of(greatest, least), of(least, least), of(greatest, greatest),
	}
}

// source yields numbers by a fixed rule.
type source struct{ state uint64 }

// bits returns a number of at most the given count of binary digits, of either sign.
func (s *source) bits(digits int) int64 {
	s.state = s.state*6364136223846793005 + 1442695040888963407
	return int64(s.state) >> (64 - digits)
}

// below returns a number from 0 to n - 1.
func (s *source) below(n int64) int64 {
	return int64(uint64(s.bits(48)+1<<48) % uint64(n))
}

// interval returns a valid interval, with ends of any size up to about 2^digits.
func (s *source) interval(digits int64) api.Interval {
	x := s.bits(int(1 + s.below(digits)))
	y := s.bits(int(1 + s.below(digits)))
	return of(min(x, y), max(x, y))
}

func (s *source) vector(digits int64) api.IVec {
	return api.IVec{s.interval(digits), s.interval(digits), s.interval(digits)}
}

// pose returns a pose with valid intervals, those of R up to about 2^turn and those of T up to about 2^shift.
func (s *source) pose(turn, shift int64) api.Pose {
	return api.Pose{R: api.IMat{s.vector(turn), s.vector(turn), s.vector(turn)}, T: s.vector(shift)}
}

// partly returns the vector with some intervals replaced by ones that are not valid.
func (s *source) partly(v api.IVec) api.IVec {
	list := broken()
	for i := range v {
		if s.below(5) == 0 {
			v[i] = list[s.below(int64(len(list)))]
		}
	}
	return v
}

// partlyPose returns a pose some of whose intervals are not valid.
func (s *source) partlyPose(turn, shift int64) api.Pose {
	p := s.pose(turn, shift)
	for i := range p.R {
		p.R[i] = s.partly(p.R[i])
	}
	p.T = s.partly(p.T)
	return p
}

// part returns a vector within v.
func (s *source) part(v api.IVec) api.IVec {
	for i, a := range v {
		x, y := a.Lo+s.below(a.Hi-a.Lo+1), a.Lo+s.below(a.Hi-a.Lo+1)
		v[i] = of(min(x, y), max(x, y))
	}
	return v
}

// partOfPose returns a pose within p.
func (s *source) partOfPose(p api.Pose) api.Pose {
	return api.Pose{R: api.IMat{s.part(p.R[0]), s.part(p.R[1]), s.part(p.R[2])}, T: s.part(p.T)}
}

// TestIdentity checks P5.1.
func TestIdentity(t *testing.T) {
	if got, want := pose.Identity(), (api.Pose{R: still(), T: points(0, 0, 0)}); got != want {
		t.Error(got)
	}
}

// TestShift checks P5.1: T is the vector itself, whether its intervals are valid or not.
func TestShift(t *testing.T) {
	list := []api.IVec{
		{}, points(3, -5, 7), points(api.Max, -api.Max, one), {of(-2, 4), of(0, 9), of(-7, -3)},
		{of(-api.Max, api.Max), at(0), of(-1, 0)},
	}
	for _, x := range broken() {
		list = append(list, api.IVec{x, at(1), at(2)}, api.IVec{at(1), x, x}, api.IVec{x, x, x})
	}
	for _, v := range list {
		if got, want := pose.Shift(v), (api.Pose{R: still(), T: v}); got != want {
			t.Errorf("Shift(%v) = %v, want %v", v, got, want)
		}
	}
}

// TestTurnQuarters checks P5.1: a quarter of a turn about each axis.
func TestTurnQuarters(t *testing.T) {
	for axis, want := range []api.IMat{
		rows(api.Vec{one, 0, 0}, api.Vec{0, 0, -one}, api.Vec{0, one, 0}),
		rows(api.Vec{0, 0, one}, api.Vec{0, one, 0}, api.Vec{-one, 0, 0}),
		rows(api.Vec{0, -one, 0}, api.Vec{one, 0, 0}, api.Vec{0, 0, one}),
	} {
		if got := pose.Turn(axis, at(quarter)); got != (api.Pose{R: want}) {
			t.Errorf("Turn(%d, %d) = %v, want %v", axis, quarter, got, want)
		}
		if got := pose.Turn(axis, at(0)); got != pose.Identity() {
			t.Errorf("Turn(%d, 0) = %v", axis, got)
		}
	}
}

// TestTurnIntervals checks P5.1: R is the matrix of package matrix, and T is 0.
func TestTurnIntervals(t *testing.T) {
	s := &source{1}
	for range 1000 {
		a := s.interval(20)
		for axis := range 3 {
			if got := pose.Turn(axis, a); got != (api.Pose{R: matrix.Turn(axis, a)}) {
				t.Fatal(axis, a, got)
			}
		}
	}
}

// TestTurnInvalid checks P5.1: the zero IMat of package matrix for another axis, or an interval that is not valid.
func TestTurnInvalid(t *testing.T) {
	for _, axis := range []int{-1, 3, 4, 258, math.MinInt, math.MaxInt} {
		for _, a := range []api.Interval{at(0), at(quarter), of(0, 100), of(1, 0)} {
			if got := pose.Turn(axis, a); got != (api.Pose{}) {
				t.Errorf("Turn(%d, %v) = %v", axis, a, got)
			}
		}
	}
	for axis := range 3 {
		for _, a := range broken() {
			if got := pose.Turn(axis, a); got != (api.Pose{}) {
				t.Errorf("Turn(%d, %v) = %v", axis, a, got)
			}
		}
	}
}

// TestExample checks the chapter's example.
func TestExample(t *testing.T) {
	p := pose.Compose(pose.Shift(points(one, 0, 0)), pose.Turn(2, at(16384)))
	if got := pose.Apply(p, points(one, 0, 0)); got != points(one, one, 0) {
		t.Error(got)
	}
}

// TestCompose checks P5.2 with products worked by hand: the second motion is done first.
func TestCompose(t *testing.T) {
	x, z := pose.Turn(0, at(quarter)), pose.Turn(2, at(quarter))
	v, w := points(3, 5, 7), points(10, -20, 40)
	screw := api.Pose{R: z.R, T: v}
	half := int64(one / 2)
	for _, c := range []struct{ a, b, want api.Pose }{
		{pose.Shift(v), pose.Shift(w), pose.Shift(points(13, -15, 47))},
		{pose.Shift(v), z, screw},
		{z, pose.Shift(v), api.Pose{R: z.R, T: points(-5, 3, 7)}},
		{z, z, pose.Turn(2, at(2*quarter))},
		{screw, screw, api.Pose{R: pose.Turn(2, at(2*quarter)).R, T: points(3-5, 5+3, 14)}},
		{x, z, api.Pose{R: rows(api.Vec{0, -one, 0}, api.Vec{0, 0, -one}, api.Vec{one, 0, 0})}},
		{z, x, api.Pose{R: rows(api.Vec{0, 0, one}, api.Vec{one, 0, 0}, api.Vec{0, one, 0})}},
		{
			api.Pose{R: x.R, T: v}, api.Pose{R: z.R, T: w},
			api.Pose{R: rows(api.Vec{0, -one, 0}, api.Vec{0, 0, -one}, api.Vec{one, 0, 0}), T: points(3+10, 5-40, 7-20)},
		},
		{
			api.Pose{R: x.R, T: api.IVec{of(0, 1), of(-2, 3), of(5, 9)}}, api.Pose{R: still(), T: api.IVec{of(1, 2), of(10, 20), of(-4, 4)}},
			api.Pose{R: x.R, T: api.IVec{of(1, 3), of(-6, 7), of(15, 29)}},
		},
		// The products are rounded outward before the sum.
		{
			api.Pose{R: rows(api.Vec{half, 0, 0}, api.Vec{0, -half, 0}, api.Vec{0, 0, half}), T: v}, pose.Shift(points(1, 1, 2)),
			api.Pose{R: rows(api.Vec{half, 0, 0}, api.Vec{0, -half, 0}, api.Vec{0, 0, half}), T: api.IVec{of(3, 4), of(4, 5), at(8)}},
		},
	} {
		if got := pose.Compose(c.a, c.b); got != c.want {
			t.Errorf("Compose(%v, %v) = %v, want %v", c.a, c.b, got, c.want)
		}
	}
}

// TestComposeLimits checks P5.2: R is limited to -One..One, T to -Max..Max.
func TestComposeLimits(t *testing.T) {
	twice := rows(api.Vec{2 * one, 0, 0}, api.Vec{0, 2 * one, 0}, api.Vec{0, 0, -2 * one})
	a := api.Pose{R: twice, T: points(api.Max, -api.Max, 0)}
	want := api.Pose{
		R: rows(api.Vec{one, 0, 0}, api.Vec{0, one, 0}, api.Vec{0, 0, -one}),
		T: points(api.Max, -api.Max+10, -api.Max),
	}
	if got := pose.Compose(a, pose.Shift(points(5, 5, api.Max-1))); got != want {
		t.Error(got)
	}
}

// TestComposeParts checks P5.2 against package matrix, also with intervals that are not valid.
func TestComposeParts(t *testing.T) {
	s := &source{2}
	for n := range 4000 {
		turn := []int64{16, 17, 32}[n%3]
		a, b := s.partlyPose(turn, 32), s.partlyPose(turn, 32)
		want := api.Pose{R: matrix.Compose(a.R, b.R), T: matrix.Add(a.T, matrix.Apply(a.R, b.T))}
		if got := pose.Compose(a, b); got != want {
			t.Fatal(a, b, got, want)
		}
	}
}

// TestComposeChain checks P5.2: a chain of motions moves a point like the motions one after another.
func TestComposeChain(t *testing.T) {
	chain, v := pose.Identity(), points(100, 20, 3)
	for i := range 12 {
		step := pose.Compose(pose.Turn(i%3, at(quarter*int64(i))), pose.Shift(points(int64(i), 7, -5)))
		chain, v = pose.Compose(step, chain), pose.Apply(step, v)
		if got := pose.Apply(chain, points(100, 20, 3)); got != v {
			t.Fatal(i, got, v)
		}
	}
}

// TestApply checks P5.2 with vectors worked by hand.
func TestApply(t *testing.T) {
	z := pose.Turn(2, at(quarter))
	half := int64(one / 2)
	for _, x := range []struct {
		p       api.Pose
		v, want api.IVec
	}{
		{pose.Identity(), points(5, -6, 7), points(5, -6, 7)},
		{api.Pose{}, points(5, -6, 7), points(0, 0, 0)},
		{pose.Shift(points(10, 20, 40)), points(5, -6, 7), points(15, 14, 47)},
		{z, points(3, 5, 7), points(-5, 3, 7)},
		{api.Pose{R: z.R, T: points(10, 20, 40)}, points(3, 5, 7), points(5, 23, 47)},
		{api.Pose{R: z.R, T: api.IVec{of(0, 1), of(-2, 3), at(0)}}, api.IVec{of(1, 2), of(10, 20), of(-4, 4)}, api.IVec{of(-20, -9), of(-1, 5), of(-4, 4)}},
		{api.Pose{R: rows(api.Vec{half, half, 0}, api.Vec{0, -half, 0}, api.Vec{}), T: points(1, 1, 1)}, points(1, 1, 1), api.IVec{of(1, 3), of(0, 1), at(1)}},
		{pose.Shift(points(api.Max, -api.Max, api.Max)), points(1, -1, -7), points(api.Max, -api.Max, api.Max-7)},
		// The rotated vector is limited before it is shifted.
		{api.Pose{R: rows(api.Vec{one, one, 0}, api.Vec{}, api.Vec{}), T: points(-5, 0, 0)}, points(api.Max, 5, 0), points(api.Max-5, 0, 0)},
	} {
		if got := pose.Apply(x.p, x.v); got != x.want {
			t.Errorf("Apply(%v, %v) = %v, want %v", x.p, x.v, got, x.want)
		}
	}
}

// TestApplyParts checks P5.2 against package matrix, also with intervals that are not valid.
func TestApplyParts(t *testing.T) {
	s := &source{3}
	for n := range 4000 {
		p, v := s.partlyPose([]int64{16, 17, 32}[n%3], 32), s.partly(s.vector(32))
		if got, want := pose.Apply(p, v), matrix.Add(p.T, matrix.Apply(p.R, v)); got != want {
			t.Fatal(p, v, got, want)
		}
	}
}

// TestApplyInvalid checks P5.2: what an interval that is not valid touches is 0, and nothing else.
func TestApplyInvalid(t *testing.T) {
	for _, x := range broken() {
		p := pose.Shift(api.IVec{at(10), x, at(40)})
		if got := pose.Apply(p, points(5, -6, 7)); got != points(15, 0, 47) {
			t.Error(x, got)
		}
		if got := pose.Apply(pose.Shift(points(10, 20, 40)), api.IVec{at(5), x, at(7)}); got != points(15, 20, 47) {
			t.Error(x, got)
		}
		p = pose.Shift(points(10, 20, 40))
		p.R[2][2] = x
		if got := pose.Apply(p, points(5, -6, 7)); got != points(15, 14, 40) {
			t.Error(x, got)
		}
	}
}

// TestInverse checks P5.3 with motions worked by hand.
func TestInverse(t *testing.T) {
	z := pose.Turn(2, at(quarter))
	half := int64(one / 2)
	for _, x := range []struct{ p, want api.Pose }{
		{pose.Identity(), pose.Identity()},
		{api.Pose{}, api.Pose{}},
		{pose.Shift(points(3, -5, 7)), pose.Shift(points(-3, 5, -7))},
		{pose.Shift(api.IVec{of(-2, 5), of(1, 4), of(-9, 0)}), pose.Shift(api.IVec{of(-5, 2), of(-4, -1), of(0, 9)})},
		{pose.Shift(points(api.Max, -api.Max, 0)), pose.Shift(points(-api.Max, api.Max, 0))},
		{z, pose.Turn(2, at(-quarter))},
		{pose.Turn(0, of(100, 9000)), pose.Turn(0, of(-9000, -100))},
		{api.Pose{R: z.R, T: points(3, 5, 7)}, api.Pose{R: pose.Turn(2, at(-quarter)).R, T: points(-5, 3, -7)}},
		// Elements beyond -One..One are exchanged as they are; the products are rounded outward.
		{
			api.Pose{R: rows(api.Vec{2 * one, 0, one}, api.Vec{half, 0, 0}, api.Vec{0, half, 0}), T: points(3, 1, 1)},
			api.Pose{R: rows(api.Vec{2 * one, half, 0}, api.Vec{0, 0, half}, api.Vec{one, 0, 0}), T: api.IVec{of(-7, -6), of(-1, 0), at(-3)}},
		},
		// Sums are limited from left to right.
		{
			api.Pose{R: rows(api.Vec{one, 0, 0}, api.Vec{one, 0, 0}, api.Vec{-one, 0, 0}), T: points(api.Max, api.Max, 5)},
			api.Pose{R: rows(api.Vec{one, one, -one}, api.Vec{}, api.Vec{}), T: points(-api.Max+5, 0, 0)},
		},
	} {
		if got := pose.Inverse(x.p); got != x.want {
			t.Errorf("Inverse(%v) = %v, want %v", x.p, got, x.want)
		}
	}
}

// TestInverseParts checks P5.3 against the lower packages, also with intervals that are not valid.
func TestInverseParts(t *testing.T) {
	s := &source{4}
	for n := range 4000 {
		p := s.partlyPose([]int64{16, 17, 32}[n%3], 32)
		got := pose.Inverse(p)
		if got.R != matrix.Transpose(p.R) {
			t.Fatal(p, got)
		}
		image := matrix.Apply(matrix.Transpose(p.R), p.T)
		for i := range 3 {
			if want := interval.Neg(image[i]); got.T[i] != want {
				t.Fatal(p, i, got.T[i], want)
			}
		}
	}
}

// TestInverseInvalid checks P5.3: an interval of R that is not valid is exchanged like others, and counts as 0 in T, as one of T does.
func TestInverseInvalid(t *testing.T) {
	for _, x := range broken() {
		if got := pose.Inverse(pose.Shift(api.IVec{at(10), x, at(40)})); got != pose.Shift(points(-10, 0, -40)) {
			t.Error(x, got)
		}
		p := pose.Shift(points(10, 20, 40))
		p.R[0][1], p.R[2][2] = x, x
		want := pose.Shift(points(-10, -20, 0))
		want.R[1][0], want.R[2][2] = x, x
		if got := pose.Inverse(p); got != want {
			t.Error(x, got)
		}
	}
}

// elements returns pointers to all intervals of a pose.
func elements(p *api.Pose) []*api.Interval {
	var list []*api.Interval
	for i := range 3 {
		list = append(list, &p.R[i][0], &p.R[i][1], &p.R[i][2], &p.T[i])
	}
	return list
}

// TestWithin checks P5.3: each interval of R and of T counts.
func TestWithin(t *testing.T) {
	b := api.Pose{
		R: api.IMat{{of(-2, 4), of(0, 9), of(-7, -3)}, {of(1, 2), of(-5, 5), of(0, 100)}, {of(-one, one), of(0, 2*one), of(-one, 0)}},
		T: api.IVec{of(-api.Max+1, 4), of(0, api.Max-1), of(-8, -3)},
	}
	if !pose.Within(b, b) || !pose.Within(api.Pose{}, api.Pose{}) || !pose.Within(pose.Identity(), pose.Identity()) {
		t.Error("a pose is not within itself")
	}
	for i, e := range elements(&b) {
		a := b
		*elements(&a)[i] = at(e.Hi)
		if !pose.Within(a, b) || pose.Within(b, a) {
			t.Error(a, b)
		}
		for _, x := range append(broken(), of(e.Lo-1, e.Hi), of(e.Lo, e.Hi+1), at(e.Lo-1), at(e.Hi+1)) {
			*elements(&a)[i] = x
			if pose.Within(a, b) {
				t.Error(a, "within", b)
			}
		}
		for _, x := range broken() {
			c := b
			*elements(&c)[i] = x
			if pose.Within(b, c) || pose.Within(c, c) {
				t.Error(c)
			}
		}
	}
}

// inUnit returns the pose with the ends of the intervals of R limited to -One..One.
func inUnit(p api.Pose) api.Pose {
	for i := range 3 {
		for k := range 3 {
			e := &p.R[i][k]
			*e = of(min(max(e.Lo, -one), one), min(max(e.Hi, -one), one))
		}
	}
	return p
}

// TestComposeIdentity checks P5.4: Identity on either side changes nothing, if the intervals of R are within -One..One.
func TestComposeIdentity(t *testing.T) {
	s := &source{5}
	wide := of(-api.Max, api.Max)
	list := []api.Pose{
		pose.Identity(), {}, pose.Shift(api.IVec{wide, at(api.Max), at(-api.Max)}), pose.Turn(1, of(100, 9000)),
		inUnit(api.Pose{R: api.IMat{{wide, wide, wide}, {wide, wide, wide}, {wide, wide, wide}}, T: api.IVec{wide, wide, wide}}),
	}
	for range 3000 {
		list = append(list, inUnit(s.pose(17, 32)))
	}
	for _, p := range list {
		if got := pose.Compose(p, pose.Identity()); got != p {
			t.Fatal(p, got)
		}
		if got := pose.Compose(pose.Identity(), p); got != p {
			t.Fatal(p, got)
		}
	}
}

// TestMonotone checks P5.4: the results of parts are within the results of the whole.
func TestMonotone(t *testing.T) {
	s := &source{6}
	for n := range 6000 {
		turn := []int64{16, 17, 32}[n%3]
		a, b, v := s.pose(turn, 32), s.pose(17, 32), s.vector(32)
		c, d, w := s.partOfPose(a), s.partOfPose(b), s.part(v)
		if !pose.Within(pose.Compose(c, d), pose.Compose(a, b)) {
			t.Fatal(c, d, a, b)
		}
		if !matrix.Within(pose.Apply(c, w), pose.Apply(a, v)) {
			t.Fatal(c, w, a, v)
		}
		if !pose.Within(pose.Inverse(c), pose.Inverse(a)) {
			t.Fatal(c, a)
		}
	}
}

// vector is a point with rational coordinates, in units.
type vector [3]*big.Rat

// motion is a rigid motion: a point v moves to turn v + shift.
type motion struct {
	turn  [3]vector
	shift vector
}

// exact returns the motion with the rotation of the quaternion (w, x, y, z), which is not 0, and the given shift.
func exact(w, x, y, z int64, shift vector) motion {
	n := w*w + x*x + y*y + z*z
	e := [3][3]int64{
		{w*w + x*x - y*y - z*z, 2 * (x*y - w*z), 2 * (x*z + w*y)},
		{2 * (x*y + w*z), w*w - x*x + y*y - z*z, 2 * (y*z - w*x)},
		{2 * (x*z - w*y), 2 * (y*z + w*x), w*w - x*x - y*y + z*z},
	}
	m := motion{shift: shift}
	for i := range 3 {
		for k := range 3 {
			m.turn[i][k] = big.NewRat(e[i][k], n)
		}
	}
	return m
}

// random returns a motion with a shift of at most the given count of binary digits.
func (s *source) random(digits int) motion {
	return exact(1+s.below(50), s.bits(6), s.bits(6), s.bits(6), s.rational(digits))
}

// rational returns a point with coordinates of at most the given count of binary digits before the point.
func (s *source) rational(digits int) vector {
	var v vector
	for i := range v {
		v[i] = new(big.Rat).SetFrac64(s.bits(digits)*8+s.below(8), 8)
	}
	return v
}

// enclosed returns the least interval that contains x times the scale.
func enclosed(x *big.Rat, scale int64) api.Interval {
	scaled := new(big.Rat).Mul(x, big.NewRat(scale, 1))
	lo := new(big.Int).Div(scaled.Num(), scaled.Denom()).Int64()
	if scaled.IsInt() {
		return at(lo)
	}
	return of(lo, lo+1)
}

// enclosedMotion returns the least pose that contains a motion.
func enclosedMotion(m motion) api.Pose {
	var p api.Pose
	for i := range 3 {
		for k := range 3 {
			p.R[i][k] = enclosed(m.turn[i][k], one)
		}
	}
	p.T = enclosedVector(m.shift)
	return p
}

func enclosedVector(v vector) api.IVec {
	return api.IVec{enclosed(v[0], 1), enclosed(v[1], 1), enclosed(v[2], 1)}
}

// dot returns the sum of the products.
func dot(a, b vector) *big.Rat {
	sum := new(big.Rat)
	for k := range 3 {
		sum.Add(sum, new(big.Rat).Mul(a[k], b[k]))
	}
	return sum
}

// moved returns the point to which m moves v.
func moved(m motion, v vector) vector {
	var image vector
	for i := range image {
		image[i] = dot(m.turn[i], v)
		image[i].Add(image[i], m.shift[i])
	}
	return image
}

// inverted returns the motion that undoes m.
func inverted(m motion) motion {
	var n motion
	for i := range 3 {
		n.turn[i] = vector{m.turn[0][i], m.turn[1][i], m.turn[2][i]}
		n.shift[i] = dot(n.turn[i], m.shift)
		n.shift[i].Neg(n.shift[i])
	}
	return n
}

// contains reports whether a vector of intervals contains a point.
func contains(v api.IVec, x vector) bool {
	for i := range 3 {
		if big.NewRat(v[i].Lo, 1).Cmp(x[i]) > 0 || x[i].Cmp(big.NewRat(v[i].Hi, 1)) > 0 {
			return false
		}
	}
	return true
}

// containsMotion reports whether a pose contains a motion.
func containsMotion(p api.Pose, m motion) bool {
	for i := range 3 {
		var scaled vector
		for k := range 3 {
			scaled[k] = new(big.Rat).Mul(m.turn[i][k], big.NewRat(one, 1))
		}
		if !contains(p.R[i], scaled) {
			return false
		}
	}
	return contains(p.T, m.shift)
}

// TestInverseContains checks P5.4: the inverse of a pose contains the inverses of the motions of the pose, and leads moved points back.
func TestInverseContains(t *testing.T) {
	s := &source{7}
	for n := range 3000 {
		m := s.random(1 + n%30)
		p := enclosedMotion(m)
		inverse := pose.Inverse(p)
		back := inverted(m)
		if !containsMotion(p, m) || !containsMotion(inverse, back) {
			t.Fatal(p, inverse)
		}
		v := s.rational(1 + n%29)
		if !contains(pose.Apply(inverse, enclosedVector(moved(m, v))), v) {
			t.Fatal(p, v)
		}
		for _, both := range []api.Pose{pose.Compose(p, inverse), pose.Compose(inverse, p)} {
			if !pose.Within(pose.Identity(), both) {
				t.Fatal(p, both)
			}
		}
	}
}

// TestMotionsContained checks P5.2 by its meaning: Compose and Apply contain what the motions do.
func TestMotionsContained(t *testing.T) {
	s := &source{8}
	for n := range 3000 {
		a, b, v := s.random(1+n%29), s.random(1+n%28), s.rational(1+n%28)
		p, q := enclosedMotion(a), enclosedMotion(b)
		image := moved(a, moved(b, v))
		both := pose.Compose(p, q)
		if !contains(pose.Apply(both, enclosedVector(v)), image) {
			t.Fatal(p, q, v)
		}
		if !contains(pose.Apply(p, pose.Apply(q, enclosedVector(v))), image) {
			t.Fatal(p, q, v)
		}
		if !contains(both.T, moved(a, b.shift)) {
			t.Fatal(p, q, both.T)
		}
	}
}

// TestWideInverse checks P5.4 for the motions in a pose with wide intervals.
func TestWideInverse(t *testing.T) {
	s := &source{9}
	for n := range 2000 {
		m := s.random(1 + n%29)
		p := enclosedMotion(m)
		for _, e := range elements(&p) {
			e.Lo, e.Hi = e.Lo-s.below(1000), e.Hi+s.below(1000)
		}
		if !containsMotion(pose.Inverse(p), inverted(m)) {
			t.Fatal(p)
		}
	}
}
