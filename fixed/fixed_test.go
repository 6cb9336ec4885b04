package fixed_test

import (
	"math"
	"math/big"
	"testing"

	"armplan/api"
	"armplan/fixed"
)

const (
	least    = math.MinInt64
	greatest = math.MaxInt64
)

// edges returns numbers near all bounds that the chapter names, with both signs.
func edges() []int64 {
	list := []int64{0, least, least + 1, greatest}
	for _, bound := range []int64{1, 3, 256, api.One / 2, api.One, 3 * api.One, 98304, api.Max / 2, api.Max, 2 * api.Max, 1 << 46, 3037000499 * 3037000499, 1 << 62} {
		for _, x := range []int64{bound - 1, bound, bound + 1} {
			list = append(list, x, -x)
		}
	}
	return list
}

// spread returns numbers of all sizes and both signs, by a fixed rule.
func spread(count int) []int64 {
	list := make([]int64, count)
	state := uint64(1)
	for i := range list {
		state = state*6364136223846793005 + 1442695040888963407
		list[i] = int64(state) >> (i % 64)
	}
	return list
}

// samples returns the edges and some numbers of all sizes.
func samples() []int64 {
	return append(edges(), spread(128)...)
}

// clamped is the exact value of the clamp of a, by comparisons of big numbers.
func clamped(a int64) *big.Int {
	x, bound := big.NewInt(a), big.NewInt(api.Max)
	if x.CmpAbs(bound) <= 0 {
		return x
	}
	if x.Sign() < 0 {
		return bound.Neg(bound)
	}
	return bound
}

// floorOf returns floor(p / q) for q other than 0.
func floorOf(p, q *big.Int) *big.Int {
	if q.Sign() < 0 {
		p, q = new(big.Int).Neg(p), new(big.Int).Neg(q)
	}
	return new(big.Int).Div(p, q)
}

// ceilOf returns ceil(p / q) for q other than 0.
func ceilOf(p, q *big.Int) *big.Int {
	r := floorOf(new(big.Int).Neg(p), q)
	return r.Neg(r)
}

func product(a, b *big.Int) *big.Int {
	return new(big.Int).Mul(a, b)
}

// equals reports whether got is the exact number want.
func equals(got int64, want *big.Int) bool {
	return big.NewInt(got).Cmp(want) == 0
}

// TestClamp checks P1.1.
func TestClamp(t *testing.T) {
	for _, x := range []struct{ a, want int64 }{
		{0, 0},
		{-12345, -12345},
		{api.Max - 1, api.Max - 1},
		{api.Max, api.Max},
		{api.Max + 1, api.Max},
		{-api.Max, -api.Max},
		{-api.Max - 1, -api.Max},
		{greatest, api.Max},
		{least, -api.Max},
	} {
		if got := fixed.Clamp(x.a); got != x.want {
			t.Errorf("Clamp(%d) = %d, want %d", x.a, got, x.want)
		}
	}
	for _, a := range samples() {
		if got := fixed.Clamp(a); !equals(got, clamped(a)) {
			t.Errorf("Clamp(%d) = %d, want %v", a, got, clamped(a))
		}
	}
}

// TestMulExamples checks P1.2 with numbers worked out by hand.
func TestMulExamples(t *testing.T) {
	for _, x := range []struct{ a, b, down, up int64 }{
		{98304, 32768, 49152, 49152},
		{-1, 1, -1, 0},
		{1, 1, 0, 1},
		{-1, -1, 0, 1},
		{0, least, 0, 0},
		{api.One, -77, -77, -77},
		{api.Max, api.Max, 1 << 46, 1 << 46},
		{-api.Max, api.Max, -1 << 46, -1 << 46},
		{greatest, greatest, 1 << 46, 1 << 46},
		{least, greatest, -1 << 46, -1 << 46},
		{least, least, 1 << 46, 1 << 46},
		{least, 1, -32768, -32768},
	} {
		if got := fixed.MulDown(x.a, x.b); got != x.down {
			t.Errorf("MulDown(%d, %d) = %d, want %d", x.a, x.b, got, x.down)
		}
		if got := fixed.MulUp(x.a, x.b); got != x.up {
			t.Errorf("MulUp(%d, %d) = %d, want %d", x.a, x.b, got, x.up)
		}
	}
}

// TestMul checks P1.2 against exact arithmetic.
func TestMul(t *testing.T) {
	one := big.NewInt(api.One)
	for _, a := range samples() {
		for _, b := range samples() {
			p := product(clamped(a), clamped(b))
			if got := fixed.MulDown(a, b); !equals(got, floorOf(p, one)) {
				t.Fatalf("MulDown(%d, %d) = %d, want %v", a, b, got, floorOf(p, one))
			}
			if got := fixed.MulUp(a, b); !equals(got, ceilOf(p, one)) {
				t.Fatalf("MulUp(%d, %d) = %d, want %v", a, b, got, ceilOf(p, one))
			}
		}
	}
}

// TestDivExamples checks P1.3 with numbers worked out by hand.
func TestDivExamples(t *testing.T) {
	for _, x := range []struct{ a, b, down, up int64 }{
		{api.One, 3 * api.One, 21845, 21846},
		{-api.One, 3 * api.One, -21846, -21845},
		{1, -3, -21846, -21845},
		{-1, -3, 21845, 21846},
		{-6, 3, -131072, -131072},
		{0, -5, 0, 0},
		{api.Max, 1, 1 << 47, 1 << 47},
		{greatest, 1, 1 << 47, 1 << 47},
		{least, -1, 1 << 47, 1 << 47},
		{least, 1, -1 << 47, -1 << 47},
		{least, least, api.One, api.One},
		{5, greatest, 0, 1},
		{5, least, -1, 0},
	} {
		if got, ok := fixed.DivDown(x.a, x.b); got != x.down || !ok {
			t.Errorf("DivDown(%d, %d) = %d, %t, want %d", x.a, x.b, got, ok, x.down)
		}
		if got, ok := fixed.DivUp(x.a, x.b); got != x.up || !ok {
			t.Errorf("DivUp(%d, %d) = %d, %t, want %d", x.a, x.b, got, ok, x.up)
		}
	}
}

// TestDiv checks P1.3 against exact arithmetic.
func TestDiv(t *testing.T) {
	for _, a := range samples() {
		p := product(clamped(a), big.NewInt(api.One))
		for _, b := range samples() {
			if b == 0 {
				continue
			}
			down, up := floorOf(p, clamped(b)), ceilOf(p, clamped(b))
			if got, ok := fixed.DivDown(a, b); !equals(got, down) || !ok {
				t.Fatalf("DivDown(%d, %d) = %d, %t, want %v", a, b, got, ok, down)
			}
			if got, ok := fixed.DivUp(a, b); !equals(got, up) || !ok {
				t.Fatalf("DivUp(%d, %d) = %d, %t, want %v", a, b, got, ok, up)
			}
		}
	}
}

// TestDivByZero checks the invalid divisor of P1.3.
func TestDivByZero(t *testing.T) {
	for _, a := range samples() {
		if got, ok := fixed.DivDown(a, 0); got != 0 || ok {
			t.Errorf("DivDown(%d, 0) = %d, %t", a, got, ok)
		}
		if got, ok := fixed.DivUp(a, 0); got != 0 || ok {
			t.Errorf("DivUp(%d, 0) = %d, %t", a, got, ok)
		}
	}
}

// TestRootExamples checks P1.4 with numbers worked out by hand.
func TestRootExamples(t *testing.T) {
	for _, x := range []struct{ n, down, up int64 }{
		{0, 0, 0},
		{1, 1, 1},
		{2, 1, 2},
		{15, 3, 4},
		{16, 4, 4},
		{17, 4, 5},
		{-1, 0, 0},
		{-16, 0, 0},
		{least, 0, 0},
		{1<<62 - 1, 1<<31 - 1, 1 << 31},
		{1 << 62, 1 << 31, 1 << 31},
		{1<<62 + 1, 1 << 31, 1<<31 + 1},
		{3037000499 * 3037000499, 3037000499, 3037000499},
		{greatest, 3037000499, 3037000500},
	} {
		if got := fixed.Root(x.n); got != x.down {
			t.Errorf("Root(%d) = %d, want %d", x.n, got, x.down)
		}
		if got := fixed.RootUp(x.n); got != x.up {
			t.Errorf("RootUp(%d) = %d, want %d", x.n, got, x.up)
		}
	}
}

// checkRoots checks the two roots of n against the definitions of P1.4.
func checkRoots(t *testing.T, n, down, up int64) {
	t.Helper()
	if n < 0 {
		n = 0
	}
	square := func(x int64) *big.Int { return product(big.NewInt(x), big.NewInt(x)) }
	want := big.NewInt(n)
	if down < 0 || square(down).Cmp(want) > 0 || square(down+1).Cmp(want) <= 0 {
		t.Errorf("the root of %d, rounded down: %d", n, down)
	}
	if up < 0 || square(up).Cmp(want) < 0 || up > 0 && square(up-1).Cmp(want) >= 0 {
		t.Errorf("the root of %d, rounded up: %d", n, up)
	}
}

// TestRoot checks P1.4 against the definitions, also around great squares.
func TestRoot(t *testing.T) {
	list := samples()
	for n := range int64(2000) {
		list = append(list, n)
	}
	for _, x := range spread(1000) {
		if x = x & greatest % 3037000500; x > 0 {
			list = append(list, x*x-1, x*x, x*x+1)
		}
	}
	for _, n := range list {
		checkRoots(t, n, fixed.Root(n), fixed.RootUp(n))
	}
}

// TestSqrtExamples checks P1.5 with numbers worked out by hand.
func TestSqrtExamples(t *testing.T) {
	for _, x := range []struct{ a, down, up int64 }{
		{0, 0, 0},
		{1, 256, 256},
		{2, 362, 363},
		{api.One, api.One, api.One},
		{4 * api.One, 2 * api.One, 2 * api.One},
		{2 * api.One, 92681, 92682},
		{-1, 0, 0},
		{-4 * api.One, 0, 0},
		{least, 0, 0},
		{api.Max, 11863283, 11863284},
		{api.Max + 1, 11863283, 11863284},
		{greatest, 11863283, 11863284},
	} {
		if got := fixed.SqrtDown(x.a); got != x.down {
			t.Errorf("SqrtDown(%d) = %d, want %d", x.a, got, x.down)
		}
		if got := fixed.SqrtUp(x.a); got != x.up {
			t.Errorf("SqrtUp(%d) = %d, want %d", x.a, got, x.up)
		}
	}
}

// TestSqrt checks P1.5 against the definitions.
func TestSqrt(t *testing.T) {
	for _, a := range samples() {
		checkRoots(t, clamped(a).Int64()*api.One, fixed.SqrtDown(a), fixed.SqrtUp(a))
	}
}

// TestShiftExamples checks P1.6 with numbers worked out by hand.
func TestShiftExamples(t *testing.T) {
	for _, x := range []struct {
		a        int64
		k        int
		down, up int64
	}{
		{-3, 1, -2, -1},
		{3, 1, 1, 2},
		{-4, 2, -1, -1},
		{5, 0, 5, 5},
		{5, -1, 5, 5},
		{-5, math.MinInt, -5, -5},
		{least, -64, least, least},
		{greatest, -1, greatest, greatest},
		{1, 63, 0, 1},
		{1, 64, 0, 1},
		{-1, 63, -1, 0},
		{-1, 64, -1, 0},
		{0, math.MaxInt, 0, 0},
		{1, math.MaxInt, 0, 1},
		{-1, math.MaxInt, -1, 0},
		{least, 0, least, least},
		{least, 62, -2, -2},
		{least, 63, -1, -1},
		{least, 64, -1, 0},
		{least, math.MaxInt, -1, 0},
		{greatest, 0, greatest, greatest},
		{greatest, 1, 1<<62 - 1, 1 << 62},
		{greatest, 63, 0, 1},
		{greatest, math.MaxInt, 0, 1},
	} {
		if got := fixed.ShiftDown(x.a, x.k); got != x.down {
			t.Errorf("ShiftDown(%d, %d) = %d, want %d", x.a, x.k, got, x.down)
		}
		if got := fixed.ShiftUp(x.a, x.k); got != x.up {
			t.Errorf("ShiftUp(%d, %d) = %d, want %d", x.a, x.k, got, x.up)
		}
	}
}

// TestShift checks P1.6 against exact arithmetic.
func TestShift(t *testing.T) {
	for k := range 200 {
		power := new(big.Int).Lsh(big.NewInt(1), uint(k))
		for _, a := range samples() {
			x := big.NewInt(a)
			if got := fixed.ShiftDown(a, k); !equals(got, floorOf(x, power)) {
				t.Fatalf("ShiftDown(%d, %d) = %d, want %v", a, k, got, floorOf(x, power))
			}
			if got := fixed.ShiftUp(a, k); !equals(got, ceilOf(x, power)) {
				t.Fatalf("ShiftUp(%d, %d) = %d, want %v", a, k, got, ceilOf(x, power))
			}
			if down, up := fixed.ShiftDown(a, -1-k), fixed.ShiftUp(a, -1-k); down != a || up != a {
				t.Fatalf("shifts of %d by %d: %d and %d", a, -1-k, down, up)
			}
		}
	}
}

// TestMulRounding checks the first two sentences of P1.7.
func TestMulRounding(t *testing.T) {
	for _, a := range samples() {
		for _, b := range samples() {
			down, up := fixed.MulDown(a, b), fixed.MulUp(a, b)
			if down > up || up > down+1 {
				t.Fatalf("products of %d and %d: %d and %d", a, b, down, up)
			}
			if a != least && up != -fixed.MulDown(-a, b) {
				t.Fatalf("MulUp(%d, %d) = %d, MulDown(%d, %d) = %d", a, b, up, -a, b, fixed.MulDown(-a, b))
			}
		}
	}
}

// TestMulMonotone checks the last sentence of P1.7.
func TestMulMonotone(t *testing.T) {
	for _, f := range []func(a, b int64) int64{fixed.MulDown, fixed.MulUp} {
		for _, a := range samples() {
			for _, c := range samples() {
				for _, b := range edges() {
					if a <= c && b >= 0 && (f(a, b) > f(c, b) || f(b, a) > f(b, c)) {
						t.Fatalf("a product with %d is not monotone from %d to %d", b, a, c)
					}
				}
			}
		}
	}
}
