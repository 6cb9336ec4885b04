package interval_test

import (
	"math"
	"math/big"
	"testing"

	"armplan/api"
	"armplan/fixed"
	"armplan/interval"
)

const (
	least    = math.MinInt64
	greatest = math.MaxInt64
)

// of returns the interval from lo to hi.
func of(lo, hi int64) api.Interval {
	return api.Interval{Lo: lo, Hi: hi}
}

// numbers returns numbers near all bounds that the chapter names, with both signs, and numbers of all sizes.
func numbers() []int64 {
	list := []int64{0, least, least + 1, greatest}
	for _, bound := range []int64{2, 256, api.One / 2, api.One, 3 * api.One, api.Max / 2, api.Max, 2 * api.Max, 1 << 62} {
		for _, x := range []int64{bound - 1, bound, bound + 1} {
			list = append(list, x, -x)
		}
	}
	return append(list, spread(32, 64)...)
}

// spread returns numbers of at most the given count of binary digits, of all sizes and both signs, by a fixed rule.
func spread(count, digits int) []int64 {
	list := make([]int64, count)
	state := uint64(1)
	for i := range list {
		state = state*6364136223846793005 + 1442695040888963407
		list[i] = int64(state) >> (64 - digits + i%digits)
	}
	return list
}

// intervals returns valid intervals: between the bounds, and of all sizes and places.
func intervals() []api.Interval {
	var list []api.Interval
	ends := []int64{-api.Max, -api.Max + 1, -3 * api.One, -api.One - 1, -api.One, -3, -1, 0, 1, 2, api.One, api.One + 1, 3 * api.One, api.Max - 1, api.Max}
	for i, lo := range ends {
		for _, hi := range ends[i:] {
			list = append(list, of(lo, hi))
		}
	}
	list = append(list, small(-2, 2)...)
	random := spread(160, 32)
	for i := 0; i < len(random); i += 2 {
		x, y := random[i], random[i+1]
		list = append(list, of(min(x, y), max(x, y)))
	}
	return list
}

// small returns all intervals with ends from low to high.
func small(low, high int64) []api.Interval {
	var list []api.Interval
	for lo := low; lo <= high; lo++ {
		for hi := lo; hi <= high; hi++ {
			list = append(list, of(lo, hi))
		}
	}
	return list
}

// broken returns intervals that are not valid.
func broken() []api.Interval {
	return []api.Interval{
		of(1, 0), of(5, 3), of(0, -1), of(-3, -5), of(api.Max, -api.Max),
		of(0, api.Max+1), of(api.Max+1, api.Max+1), of(-api.Max-1, 0), of(-api.Max-1, -api.Max-1), of(-api.Max-1, api.Max+1),
		of(least, greatest), of(greatest, least), of(least, 0), of(0, greatest), of(0, least), of(greatest, 0),
		of(least, least), of(greatest, greatest), of(least, -api.Max), of(api.Max, greatest),
	}
}

// limited returns the interval from lo to hi with both ends limited, by comparisons of big numbers.
func limited(lo, hi *big.Int) api.Interval {
	return of(clamped(lo), clamped(hi))
}

func clamped(x *big.Int) int64 {
	if x.CmpAbs(big.NewInt(api.Max)) <= 0 {
		return x.Int64()
	}
	return int64(x.Sign()) * api.Max
}

// floorOf returns floor(p / One).
func floorOf(p *big.Int) *big.Int {
	return new(big.Int).Div(p, big.NewInt(api.One))
}

// ceilOf returns ceil(p / One).
func ceilOf(p *big.Int) *big.Int {
	r := floorOf(new(big.Int).Neg(p))
	return r.Neg(r)
}

func product(a, b int64) *big.Int {
	return new(big.Int).Mul(big.NewInt(a), big.NewInt(b))
}

// extremes returns the least and the greatest number of a list that is not empty.
func extremes(list ...*big.Int) (low, high *big.Int) {
	low, high = list[0], list[0]
	for _, x := range list {
		if x.Cmp(low) < 0 {
			low = x
		}
		if x.Cmp(high) > 0 {
			high = x
		}
	}
	return low, high
}

// TestValid checks the definition of valid intervals and the first sentence of P2.1.
func TestValid(t *testing.T) {
	for _, a := range append(intervals(), api.Interval{}, of(-api.Max, api.Max), of(api.Max, api.Max), of(-api.Max, -api.Max)) {
		if !interval.Valid(a) {
			t.Errorf("%v is not valid", a)
		}
	}
	for _, a := range broken() {
		if interval.Valid(a) {
			t.Errorf("%v is valid", a)
		}
	}
}

// TestOf checks the second sentence of P2.1.
func TestOf(t *testing.T) {
	for _, x := range []struct{ x, want int64 }{
		{0, 0}, {-7, -7},
		{api.Max, api.Max}, {api.Max + 1, api.Max}, {greatest, api.Max},
		{-api.Max, -api.Max}, {-api.Max - 1, -api.Max}, {least, -api.Max},
	} {
		if got := interval.Of(x.x); got != of(x.want, x.want) {
			t.Errorf("Of(%d) = %v", x.x, got)
		}
	}
	for _, x := range numbers() {
		if got, want := interval.Of(x), limited(big.NewInt(x), big.NewInt(x)); got != want {
			t.Errorf("Of(%d) = %v, want %v", x, got, want)
		}
	}
}

// TestInvalidPairs checks that functions of two intervals return zero values if one of them or both are not valid.
func TestInvalidPairs(t *testing.T) {
	check := func(a, b api.Interval) {
		t.Helper()
		for name, f := range map[string]func(a, b api.Interval) api.Interval{"Add": interval.Add, "Sub": interval.Sub, "Mul": interval.Mul, "Hull": interval.Hull} {
			if got := f(a, b); got != (api.Interval{}) {
				t.Errorf("%s(%v, %v) = %v", name, a, b, got)
			}
		}
		if got, ok := interval.Meet(a, b); ok || got != (api.Interval{}) {
			t.Errorf("Meet(%v, %v) = %v, %t", a, b, got, ok)
		}
		if interval.Within(a, b) {
			t.Errorf("Within(%v, %v)", a, b)
		}
	}
	for _, a := range broken() {
		for _, b := range broken() {
			check(a, b)
		}
		for _, b := range []api.Interval{of(0, 0), of(2, 7), of(-9, 9), of(-5, -1), of(-api.Max, api.Max), of(api.Max, api.Max)} {
			check(a, b)
			check(b, a)
		}
	}
}

// TestInvalidSingle checks that functions of one interval return zero values if it is not valid.
func TestInvalidSingle(t *testing.T) {
	for _, a := range broken() {
		for name, f := range map[string]func(a api.Interval) api.Interval{"Neg": interval.Neg, "Square": interval.Square, "Sqrt": interval.Sqrt} {
			if got := f(a); got != (api.Interval{}) {
				t.Errorf("%s(%v) = %v", name, a, got)
			}
		}
		for _, x := range append(numbers(), a.Lo, a.Hi) {
			if got := interval.Scale(a, x); got != (api.Interval{}) {
				t.Errorf("Scale(%v, %d) = %v", a, x, got)
			}
			if interval.Has(a, x) {
				t.Errorf("Has(%v, %d)", a, x)
			}
		}
		if mid, width := interval.Mid(a), interval.Width(a); mid != 0 || width != 0 {
			t.Errorf("%v has the middle %d and the width %d", a, mid, width)
		}
	}
}

// TestSumExamples checks P2.2 with numbers worked out by hand.
func TestSumExamples(t *testing.T) {
	const m = api.Max
	for _, x := range []struct{ a, b, sum, difference api.Interval }{
		{of(1, 2), of(10, 20), of(11, 22), of(-19, -8)},
		{of(-3, 5), of(-7, 2), of(-10, 7), of(-5, 12)},
		{of(0, 0), of(0, 0), of(0, 0), of(0, 0)},
		{of(-m, m), of(-m, m), of(-m, m), of(-m, m)},
		{of(m, m), of(1, 1), of(m, m), of(m-1, m-1)},
		{of(m-1, m), of(0, 1), of(m-1, m), of(m-2, m)},
		{of(-m, -m), of(1, 2), of(-m+1, -m+2), of(-m, -m)},
		{of(-m, 5), of(-1, m), of(-m, m), of(-m, 6)},
		{of(m, m), of(m, m), of(m, m), of(0, 0)},
		{of(-m, -m), of(m, m), of(0, 0), of(-m, -m)},
	} {
		if got := interval.Add(x.a, x.b); got != x.sum {
			t.Errorf("Add(%v, %v) = %v, want %v", x.a, x.b, got, x.sum)
		}
		if got := interval.Sub(x.a, x.b); got != x.difference {
			t.Errorf("Sub(%v, %v) = %v, want %v", x.a, x.b, got, x.difference)
		}
	}
}

// TestSum checks P2.2 against exact arithmetic.
func TestSum(t *testing.T) {
	for _, a := range intervals() {
		for _, b := range intervals() {
			sum := limited(big.NewInt(a.Lo+b.Lo), big.NewInt(a.Hi+b.Hi))
			if got := interval.Add(a, b); got != sum {
				t.Fatalf("Add(%v, %v) = %v, want %v", a, b, got, sum)
			}
			difference := limited(big.NewInt(a.Lo-b.Hi), big.NewInt(a.Hi-b.Lo))
			if got := interval.Sub(a, b); got != difference {
				t.Fatalf("Sub(%v, %v) = %v, want %v", a, b, got, difference)
			}
		}
	}
}

// TestNeg checks the last sentence of P2.2.
func TestNeg(t *testing.T) {
	for _, x := range []struct{ a, want api.Interval }{
		{of(2, 5), of(-5, -2)},
		{of(-3, 7), of(-7, 3)},
		{of(0, 0), of(0, 0)},
		{of(-api.Max, api.Max-1), of(-api.Max+1, api.Max)},
	} {
		if got := interval.Neg(x.a); got != x.want {
			t.Errorf("Neg(%v) = %v, want %v", x.a, got, x.want)
		}
	}
	for _, a := range intervals() {
		if got := interval.Neg(a); got != of(-a.Hi, -a.Lo) {
			t.Errorf("Neg(%v) = %v", a, got)
		}
	}
}

// TestMulExamples checks the first sentence of P2.3 with numbers worked out by hand.
func TestMulExamples(t *testing.T) {
	const one, m = api.One, api.Max
	for _, x := range []struct{ a, b, want api.Interval }{
		{of(-3, 5), of(one, 2*one), of(-6, 10)},
		{of(2*one, 3*one), of(4*one, 5*one), of(8*one, 15*one)},
		{of(-3*one, -2*one), of(-5*one, -4*one), of(8*one, 15*one)},
		{of(-3*one, -2*one), of(4*one, 5*one), of(-15*one, -8*one)},
		{of(-3*one, 2*one), of(-5*one, 4*one), of(-12*one, 15*one)},
		{of(1, 1), of(1, 1), of(0, 1)},
		{of(-1, -1), of(1, 1), of(-1, 0)},
		{of(-1, 1), of(-1, 1), of(-1, 1)},
		{of(0, 0), of(-m, m), of(0, 0)},
		{of(98304, 98304), of(32768, 32769), of(49152, 49154)},
		{of(m, m), of(one, one), of(m, m)},
		{of(m, m), of(one+1, 2*one), of(m, m)},
		{of(m-1, m), of(-one-1, -one), of(-m, -m+1)},
		{of(-m, m), of(-m, m), of(-m, m)},
		{of(-m, -m), of(-m, -m), of(m, m)},
		{of(-m, -m), of(1, m), of(-m, -32768)},
	} {
		for _, pair := range [][2]api.Interval{{x.a, x.b}, {x.b, x.a}} {
			if got := interval.Mul(pair[0], pair[1]); got != x.want {
				t.Errorf("Mul(%v, %v) = %v, want %v", pair[0], pair[1], got, x.want)
			}
		}
	}
}

// TestMul checks the first sentence of P2.3 against exact arithmetic.
func TestMul(t *testing.T) {
	for _, a := range intervals() {
		for _, b := range intervals() {
			p, q := extremes(product(a.Lo, b.Lo), product(a.Lo, b.Hi), product(a.Hi, b.Lo), product(a.Hi, b.Hi))
			want := limited(floorOf(p), ceilOf(q))
			if got := interval.Mul(a, b); got != want {
				t.Fatalf("Mul(%v, %v) = %v, want %v", a, b, got, want)
			}
		}
	}
}

// TestScaleExamples checks the second sentence of P2.3 with numbers worked out by hand.
func TestScaleExamples(t *testing.T) {
	const m = api.Max
	for _, x := range []struct {
		a    api.Interval
		k    int64
		want api.Interval
	}{
		{of(-3, 5), 2, of(-6, 10)},
		{of(-3, 5), -2, of(-10, 6)},
		{of(-3, 5), 0, of(0, 0)},
		{of(-3, 5), 1, of(-3, 5)},
		{of(2, 3), -1, of(-3, -2)},
		{of(0, 0), greatest, of(0, 0)},
		{of(0, 0), least, of(0, 0)},
		{of(-1, 1), greatest, of(-m, m)},
		{of(0, 1), m - 1, of(0, m-1)},
		{of(0, 1), least, of(-m, 0)},
		{of(1, 2), m + 1, of(m, m)},
		{of(-m, -1), 2, of(-m, -2)},
		{of(-m, m), least, of(-m, m)},
		{of(m-1, m), -1, of(-m, -m+1)},
		{of(-m, -m), m, of(-m, -m)},
		{of(-m, -m), -m, of(m, m)},
		{of(api.One, api.One), 3, of(3*api.One, 3*api.One)},
	} {
		if got := interval.Scale(x.a, x.k); got != x.want {
			t.Errorf("Scale(%v, %d) = %v, want %v", x.a, x.k, got, x.want)
		}
	}
}

// TestScale checks the second sentence of P2.3 against exact arithmetic.
func TestScale(t *testing.T) {
	for _, a := range intervals() {
		for _, k := range numbers() {
			factor := clamped(big.NewInt(k))
			p, q := extremes(product(a.Lo, factor), product(a.Hi, factor))
			if got := interval.Scale(a, k); got != limited(p, q) {
				t.Fatalf("Scale(%v, %d) = %v, want %v", a, k, got, limited(p, q))
			}
		}
	}
}

// TestSquareExamples checks the first sentence of P2.4 with numbers worked out by hand.
func TestSquareExamples(t *testing.T) {
	const one, m = api.One, api.Max
	for _, x := range []struct{ a, want api.Interval }{
		{of(-one, one/2), of(0, one)},
		{of(-one/2, one), of(0, one)},
		{of(2*one, 3*one), of(4*one, 9*one)},
		{of(-3*one, -2*one), of(4*one, 9*one)},
		{of(0, 0), of(0, 0)},
		{of(0, 2*one), of(0, 4*one)},
		{of(-2*one, 0), of(0, 4*one)},
		{of(1, 1), of(0, 1)},
		{of(-1, -1), of(0, 1)},
		{of(257, 257), of(1, 2)},
		{of(-257, -256), of(1, 2)},
		{of(-m, m), of(0, m)},
		{of(m, m), of(m, m)},
		{of(-m, -m), of(m, m)},
		{of(-one-1, 1-one), of(one-2, one+3)},
		{of(1<<23, 11863283), of(1<<30, m-73)},
		{of(1<<23, 11863284), of(1<<30, m)},
		{of(-m, -11863284), of(m, m)},
	} {
		if got := interval.Square(x.a); got != x.want {
			t.Errorf("Square(%v) = %v, want %v", x.a, got, x.want)
		}
	}
}

// TestSquare checks the first sentence of P2.4 against exact arithmetic.
func TestSquare(t *testing.T) {
	for _, a := range intervals() {
		p, q := extremes(product(a.Lo, a.Lo), product(a.Hi, a.Hi))
		if a.Lo <= 0 && 0 <= a.Hi {
			p = big.NewInt(0)
		}
		want := limited(floorOf(p), ceilOf(q))
		if got := interval.Square(a); got != want {
			t.Errorf("Square(%v) = %v, want %v", a, got, want)
		}
	}
}

// TestSqrt checks the second sentence of P2.4.
func TestSqrt(t *testing.T) {
	const one, m = api.One, api.Max
	for _, x := range []struct{ a, want api.Interval }{
		{of(4*one, 9*one), of(2*one, 3*one)},
		{of(2*one, 2*one), of(92681, 92682)},
		{of(0, 0), of(0, 0)},
		{of(1, 2), of(256, 363)},
		{of(-1, 1), of(0, 256)},
		{of(-1, 0), of(0, 0)},
		{of(-4*one, -one), of(0, 0)},
		{of(-m, -m), of(0, 0)},
		{of(-m, m), of(0, 11863284)},
		{of(m, m), of(11863283, 11863284)},
	} {
		if got := interval.Sqrt(x.a); got != x.want {
			t.Errorf("Sqrt(%v) = %v, want %v", x.a, got, x.want)
		}
	}
	for _, a := range intervals() {
		if got, want := interval.Sqrt(a), of(fixed.SqrtDown(a.Lo), fixed.SqrtUp(a.Hi)); got != want {
			t.Errorf("Sqrt(%v) = %v, want %v", a, got, want)
		}
	}
}

// TestHullExamples checks the first sentence of P2.5 with intervals worked out by hand.
func TestHullExamples(t *testing.T) {
	for _, x := range []struct{ a, b, want api.Interval }{
		{of(1, 2), of(5, 7), of(1, 7)},
		{of(1, 6), of(5, 7), of(1, 7)},
		{of(1, 9), of(5, 7), of(1, 9)},
		{of(-4, -4), of(-4, -4), of(-4, -4)},
		{of(3, 4), of(-9, -8), of(-9, 4)},
		{of(-api.Max, -api.Max), of(api.Max, api.Max), of(-api.Max, api.Max)},
	} {
		if got, swapped := interval.Hull(x.a, x.b), interval.Hull(x.b, x.a); got != x.want || swapped != x.want {
			t.Errorf("Hull of %v and %v: %v and %v, want %v", x.a, x.b, got, swapped, x.want)
		}
	}
}

// TestHull checks that the hull contains both intervals, and that nothing can be cut off at its ends.
func TestHull(t *testing.T) {
	for _, a := range intervals() {
		for _, b := range intervals() {
			h := interval.Hull(a, b)
			if !interval.Within(a, h) || !interval.Within(b, h) {
				t.Fatalf("Hull(%v, %v) = %v does not contain both", a, b, h)
			}
			if h.Lo != a.Lo && h.Lo != b.Lo || h.Hi != a.Hi && h.Hi != b.Hi {
				t.Fatalf("Hull(%v, %v) = %v is not the least", a, b, h)
			}
		}
	}
}

// TestMeetExamples checks the second sentence of P2.5 with intervals worked out by hand.
func TestMeetExamples(t *testing.T) {
	for _, x := range []struct {
		a, b, want api.Interval
		ok         bool
	}{
		{of(1, 6), of(5, 7), of(5, 6), true},
		{of(1, 5), of(5, 7), of(5, 5), true},
		{of(1, 4), of(5, 7), api.Interval{}, false},
		{of(-9, -1), of(1, 9), api.Interval{}, false},
		{of(-9, 0), of(0, 9), of(0, 0), true},
		{of(1, 9), of(5, 7), of(5, 7), true},
		{of(-4, -4), of(-4, -4), of(-4, -4), true},
		{of(-api.Max, -api.Max), of(api.Max, api.Max), api.Interval{}, false},
		{of(-api.Max, api.Max), of(-api.Max, -1), of(-api.Max, -1), true},
	} {
		for _, pair := range [][2]api.Interval{{x.a, x.b}, {x.b, x.a}} {
			if got, ok := interval.Meet(pair[0], pair[1]); got != x.want || ok != x.ok {
				t.Errorf("Meet(%v, %v) = %v, %t, want %v, %t", pair[0], pair[1], got, ok, x.want, x.ok)
			}
		}
	}
}

// TestMeet checks the second sentence of P2.5, number by number, for all small intervals.
func TestMeet(t *testing.T) {
	for _, a := range small(-4, 4) {
		for _, b := range small(-4, 4) {
			m, ok := interval.Meet(a, b)
			common := 0
			for x := int64(-5); x <= 5; x++ {
				both := a.Lo <= x && x <= a.Hi && b.Lo <= x && x <= b.Hi
				if both {
					common++
				}
				if ok && both != (m.Lo <= x && x <= m.Hi) {
					t.Errorf("Meet(%v, %v) = %v is wrong at %d", a, b, m, x)
				}
			}
			if ok != (common > 0) || !ok && m != (api.Interval{}) {
				t.Errorf("Meet(%v, %v) = %v, %t", a, b, m, ok)
			}
		}
	}
}

// TestHas checks the first sentence of P2.6.
func TestHas(t *testing.T) {
	const m = api.Max
	for _, x := range []struct {
		a    api.Interval
		x    int64
		want bool
	}{
		{of(-2, 3), -3, false}, {of(-2, 3), -2, true}, {of(-2, 3), 0, true}, {of(-2, 3), 3, true}, {of(-2, 3), 4, false},
		{of(5, 5), 5, true}, {of(5, 5), 4, false}, {of(5, 5), 6, false}, {of(5, 5), -5, false},
		{of(-m, m), m, true}, {of(-m, m), -m, true}, {of(-m, m), m + 1, false}, {of(-m, m), -m - 1, false},
		{of(-m, m), least, false}, {of(-m, m), greatest, false}, {of(0, 0), least, false}, {of(0, 0), 0, true},
	} {
		if got := interval.Has(x.a, x.x); got != x.want {
			t.Errorf("Has(%v, %d) = %t", x.a, x.x, got)
		}
	}
	for _, a := range intervals() {
		for _, x := range numbers() {
			if got := interval.Has(a, x); got != (a.Lo <= x && x <= a.Hi) {
				t.Fatalf("Has(%v, %d) = %t", a, x, got)
			}
		}
	}
}

// TestWithin checks the second sentence of P2.6.
func TestWithin(t *testing.T) {
	for _, x := range []struct {
		a, b api.Interval
		want bool
	}{
		{of(2, 3), of(1, 4), true},
		{of(1, 4), of(2, 3), false},
		{of(1, 4), of(1, 4), true},
		{of(1, 3), of(1, 4), true},
		{of(2, 4), of(1, 4), true},
		{of(0, 3), of(1, 4), false},
		{of(2, 5), of(1, 4), false},
		{of(6, 7), of(1, 4), false},
		{of(-7, -6), of(1, 4), false},
		{of(-api.Max, api.Max), of(-api.Max, api.Max), true},
		{of(-api.Max, api.Max), of(-api.Max, api.Max-1), false},
	} {
		if got := interval.Within(x.a, x.b); got != x.want {
			t.Errorf("Within(%v, %v) = %t", x.a, x.b, got)
		}
	}
	for _, a := range small(-4, 4) {
		for _, b := range small(-4, 4) {
			if got := interval.Within(a, b); got != (interval.Has(b, a.Lo) && interval.Has(b, a.Hi)) {
				t.Errorf("Within(%v, %v) = %t", a, b, got)
			}
		}
	}
}

// TestMidWidth checks the last sentence of P2.6.
func TestMidWidth(t *testing.T) {
	const m = api.Max
	for _, x := range []struct {
		a          api.Interval
		mid, width int64
	}{
		{of(-3, 0), -2, 3},
		{of(0, 3), 1, 3},
		{of(-4, 0), -2, 4},
		{of(-2, 1), -1, 3},
		{of(-7, -6), -7, 1},
		{of(6, 7), 6, 1},
		{of(5, 5), 5, 0},
		{of(-5, -5), -5, 0},
		{of(0, 0), 0, 0},
		{of(-m, m), 0, 2 * m},
		{of(-m, m-1), -1, 2*m - 1},
		{of(m-1, m), m - 1, 1},
		{of(-m, 1-m), -m, 1},
		{of(m, m), m, 0},
		{of(-m, -m), -m, 0},
	} {
		if mid, width := interval.Mid(x.a), interval.Width(x.a); mid != x.mid || width != x.width {
			t.Errorf("%v has the middle %d and the width %d, want %d and %d", x.a, mid, width, x.mid, x.width)
		}
	}
	for _, a := range intervals() {
		mid, width := interval.Mid(a), interval.Width(a)
		if twice := a.Lo + a.Hi - 2*mid; twice != 0 && twice != 1 {
			t.Errorf("%v has the middle %d", a, mid)
		}
		if a.Lo+width != a.Hi {
			t.Errorf("%v has the width %d", a, width)
		}
	}
}

// parts is the number of equal parts into which the tests of enclosure divide an interval.
const parts = 6

// points returns real numbers that lie in a, both ends included, multiplied by parts.
func points(a api.Interval) []*big.Int {
	var list []*big.Int
	for i := range int64(parts + 1) {
		list = append(list, big.NewInt(a.Lo*(parts-i)+a.Hi*i))
	}
	return list
}

// encloses reports whether x / scale lies in a, or beyond -Max..Max.
func encloses(a api.Interval, x *big.Int, scale int64) bool {
	if x.CmpAbs(product(api.Max, scale)) > 0 {
		return true
	}
	return product(a.Lo, scale).Cmp(x) <= 0 && x.Cmp(product(a.Hi, scale)) <= 0
}

// TestEnclosure checks the first sentence of P2.7.
func TestEnclosure(t *testing.T) {
	all := intervals()
	for i, a := range all {
		for j, b := range all {
			if (i+j)%5 != 0 {
				continue
			}
			sum, difference, times := interval.Add(a, b), interval.Sub(a, b), interval.Mul(a, b)
			for _, x := range points(a) {
				for _, y := range points(b) {
					if !encloses(sum, new(big.Int).Add(x, y), parts) || !encloses(difference, new(big.Int).Sub(x, y), parts) || !encloses(times, new(big.Int).Mul(x, y), parts*parts*api.One) {
						t.Fatalf("%v and %v: the sum %v, the difference %v or the product %v misses %v and %v, in units of 1/%d", a, b, sum, difference, times, x, y, parts)
					}
				}
			}
		}
	}
}

// nested returns pairs of intervals, the first of each within the second.
func nested() [][2]api.Interval {
	var list [][2]api.Interval
	all := intervals()
	for i, a := range all {
		list = append(list, [2]api.Interval{a, a})
		for j, c := range all {
			if (i+j)%7 == 0 && a.Lo >= c.Lo && a.Hi <= c.Hi {
				list = append(list, [2]api.Interval{a, c})
			}
		}
	}
	return list
}

// inside reports whether a is a part of c.
func inside(a, c api.Interval) bool {
	return c.Lo <= a.Lo && a.Lo <= a.Hi && a.Hi <= c.Hi
}

// TestMonotonePairs checks the second sentence of P2.7 for functions of two intervals.
func TestMonotonePairs(t *testing.T) {
	pairs := nested()
	for name, f := range map[string]func(a, b api.Interval) api.Interval{"Add": interval.Add, "Sub": interval.Sub, "Mul": interval.Mul, "Hull": interval.Hull} {
		for i, x := range pairs {
			for j, y := range pairs {
				if (i+j)%11 == 0 && !inside(f(x[0], y[0]), f(x[1], y[1])) {
					t.Fatalf("%s(%v, %v) is not within %s(%v, %v)", name, x[0], y[0], name, x[1], y[1])
				}
			}
		}
	}
}

// TestMonotoneSingle checks the second sentence of P2.7 for functions of one interval.
func TestMonotoneSingle(t *testing.T) {
	functions := map[string]func(a api.Interval) api.Interval{"Neg": interval.Neg, "Square": interval.Square, "Sqrt": interval.Sqrt}
	for _, x := range nested() {
		for name, f := range functions {
			if !inside(f(x[0]), f(x[1])) {
				t.Errorf("%s(%v) is not within %s(%v)", name, x[0], name, x[1])
			}
		}
		for _, k := range numbers() {
			if !inside(interval.Scale(x[0], k), interval.Scale(x[1], k)) {
				t.Errorf("Scale(%v, %d) is not within Scale(%v, %d)", x[0], k, x[1], k)
			}
		}
	}
}
